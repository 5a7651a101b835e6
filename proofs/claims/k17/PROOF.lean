import PyProof.Rows.All
import Wide.All
import OpenK.AllK
import Wide.FinOn
import Lean
import PyProof.EqAt
import PyProof.EqKinds
import PyProof.TupleCall
import PySem.Challenge.RW_landroll_k17_sides_and_rings
set_option Elab.async false
set_option linter.all false
set_option maxRecDepth 100000
open PySem.W (Frag kitOne keepIn fnOf codeIn nsIn)
section
open PySem PySem.Spec PyProof.Rows PyProof PySem.W PySem.Calls PySem.Builtin PySem.F
def uf:=@wpAny_bind
def ug:=@wpAny_pure
def uh:=@Heap.get?_push_of_some
def ui:=@wpS_bind
def uj:=@List.length_map
def uk:=@wpS_pure
def um:=@if_pos
def uo:=@if_neg
def uq:=@List.getElem?_eq_getElem
def ur:=@List.getElem?_eq_some_iff
def uu:=@Array.length_toList
def uv:=@List.mem_cons_of_mem
def uw:=@Heap.lt_size
def ux:=@List.mem_singleton
def uy:=@List.mem_cons_self
def uz:=@Bool.false_ne_true
def uA:=@Nat.le_refl
def uB:=@List.mem_append
def uC:=@List.size_toArray
def uD:=@decide_eq_true
def uE:=@Array.getElem?_toList
def uF:=@List.mem_of_getElem?
def uG:=@List.length_take
def uH:=@decide_eq_true_eq
def uI:=@Nat.lt_of_lt_of_le
def uJ:=@List.append_assoc
def uK:=@Heap.get?_push_size
def uL:=@Paired.length
def uM:=@List.take_add_one
def uN:=@Array.toList_append
def uO:=@List.mem_map
def uP:=@Array.toList_push
def uQ:=@decide_eq_false
def uR:=@List.getLast?_eq_some_getLast
def uS:=@Option.toList_some
def uT:=@List.mem_append_right
def uU:=@List.getElem?_map
def uV:=@List.length_append
def uW:=@of_decide_eq_true
def uX:=@Nat.ne_of_lt
def uY:=@List.mem_cons
def uZ:=@List.cons.inj
def u0:=@List.take_append_drop
def va:=@List.pairwise_append
def vb:=@Int.toNat_natCast
def vc:=@PySem.W.mg_none_of
def ve:=@Bool.false_eq_true
def vg:=@Nat.zero_le
def vh:=@List.nodup_cons
def vi:=@List.map_cons
def vj:=@List.mem_of_mem_take
def vk:=@PassesOwn.never
def vl:=@List.take_length
def vm:=@List.reverse_append
def vn:=@List.append_nil
def vo:=@Bool.and_eq_true
def vp:=@Heap.get?_update_other
def vq:=@wpS_forRange
def vu:=@Bool.eq_iff_iff
def vv:=@PySem.F.plainAttrs_list
def vx:=@List.mem_of_mem_drop
def vy:=@List.map_map
def vz:=@PySem.W.kia_one
def vA:=@List.pairwise_iff_getElem
def vB:=@List.not_mem_nil
def vC:=@List.mem_map_of_mem
def vD:=@wpAny_mono
def vE:=@PySem.F.type_list_append
def vF:=@PySem.F.slot_list_append
def vG:=@List.length_range
def vH:=@Int.le_trans
def vI:=@List.mem_range
def vJ:=@Option.some.inj
def vK:=@List.filter_append
def vL:=@List.mem_append_left
def vM:=@Around.under_plainId
def vN:=@Option.map_eq_some_iff
def vO:=@List.drop_eq_nil_of_le
def vP:=@wpAny_truthy_bool
def vQ:=@sizeLine_eq
def vR:=@Nat.lt_irrefl
def vS:=@Nat.le_trans
def vT:=@List.mem_filter
def vU:=@List.getElem?_take_of_lt
def vV:=@Nat.mod_eq_of_lt
def vW:=@List.length_drop
def vX:=@Int.le_refl
def vY:=@MeetsSeq3.plain_eq_loop
def vZ:=@List.pairwise_singleton
def v7:=@F.slot_dict_keyiterator_next
def v8:=@wpAny_newObj_type
def v9:=@List.nodup_append
def wa:=@wpAny_loadPart'
def wb:=@PySem.mem_of_lookup
def wc:=@List.filter_nil
def we:=@Int.natCast_add
def wg:=@List.getElem?_append_right
def wj:=@Array.perm_iff_toList_perm
def wm:=@List.length_cons
def wo:=@List.cons_ne_nil
end
namespace L2
theorem ep3{α β:Type}{A B C:α->β->Prop}{g:Prop}(h:∃x y,A x y/\B x y/\C x y)(k:∀x y,A x y->B x y->C x y->g):g:=by obtain⟨x,y,a,b,c⟩:=h;exact k x y a b c
end L2
namespace L2
open PySem PySem.Spec PyProof.Rows
noncomputable abbrev Key:=Sum Int Str
noncomputable def iM:Key->Value->Bool
 | .inl k,v=>Value.isInt k v
 | .inr x,v=>Value.isStrOf x v
noncomputable def t8(w:World):Key->Int
 | .inl k=>hashInt k
 | .inr x=>hashStr w x
theorem a8:∀{k:Key}{v:Value},iM k v=true->(∃i t,k=Sum.inl i/\v=Value.int i t)\/(∃x t,k=Sum.inr x/\v=Value.str x t)
 | .inl i,v,h=>by obtain⟨t,e⟩:=Value.isInt_shape (k:=i) (v:=v) h;exact .inl ⟨i,t,rfl,e⟩
 | .inr x,v,h=>by obtain⟨t,e⟩:=Value.isStrOf_shape (x:=x) (v:=v) h;exact .inr ⟨x,t,rfl,e⟩
theorem nj(i:Int)(t:Tok):iM (.inl i) (.int i t)=true:=by simp[iM,Value.isInt]
theorem ni(x:Str)(t:Tok):iM (.inr x) (.str x t)=true:=by simp[iM,Value.isStrOf]
theorem rO(a b:Int):decide ((Sum.inl a:Key)=Sum.inl b)=(a==b):=by
 by_cases e:a=b
 ·subst e;simp
 ·have h:¬(Sum.inl a:Key)=Sum.inl b:=fun q=>e (Sum.inl.inj q);rw[uQ h];exact(beq_eq_false_iff_ne.mpr e).symm
theorem rL(a b:Str):decide ((Sum.inr a:Key)=Sum.inr b)=decide (a=b):=by
 by_cases e:a=b
 ·subst e;simp
 ·have h:¬(Sum.inr a:Key)=Sum.inr b:=fun q=>e (Sum.inr.inj q);rw[uQ h,uQ e]
theorem rN(a:Int)(b:Str):decide ((Sum.inl a:Key)=Sum.inr b)=false:=uQ (fun q=>nomatch q)
theorem rM(a:Str)(b:Int):decide ((Sum.inr a:Key)=Sum.inl b)=false:=uQ (fun q=>nomatch q)
noncomputable def bo(prog:Program)(w:World):PySem.KeyKind prog w Key where
 is:=iM
 hash:=t8 w
 inj:=fun v a b ha hb=>by
  rcases a8 ha with⟨i,t,rfl,rfl⟩|⟨x,t,rfl,rfl⟩
  ·rcases a8 hb with⟨j,u,rfl,e⟩|⟨y,u,rfl,e⟩
   ·injection e with e1 _;rw[e1]
   ·exact nomatch e
  ·rcases a8 hb with⟨j,u,rfl,e⟩|⟨y,u,rfl,e⟩
   ·exact nomatch e
   ·injection e with e1 _;rw[e1]
 byValue:=fun k v h=>by
  rcases a8 h with⟨i,t,rfl,rfl⟩|⟨x,t,rfl,rfl⟩<;>rfl
 pyHash:=fun hv h=>by
  rcases a8 hv with⟨i,t,rfl,rfl⟩|⟨x,t,rfl,rfl⟩
  ·exact wpAny_pyHash_int h
  ·exact wpAny_pyHash_str h
 eqBool:=fun hu hv h=>by
  rcases a8 hu with⟨i,t,rfl,rfl⟩|⟨x,t,rfl,rfl⟩
  ·rcases a8 hv with⟨j,u,rfl,rfl⟩|⟨y,u,rfl,rfl⟩
   ·rw[rO]at h;exact wpAny_eqBool_int h
   ·rw[rN]at h;exact SeqAt.EqAt.int_str i t y u _ _ _ _ h
  ·rcases a8 hv with⟨j,u,rfl,rfl⟩|⟨y,u,rfl,rfl⟩
   ·rw[rM]at h;exact SeqAt.EqAt.str_int x t j u _ _ _ _ h
   ·rw[rL]at h;exact wpAny_eqBool_str h
 «strs»:=fun k x t v h=>by
  rcases a8 h with⟨i,u,rfl,e⟩|⟨y,u,rfl,e⟩
  ·exact nomatch e
  ·injection e with e1 _
   subst e1
   cases v<;>rfl
theorem ke(prog:Program)(w:World)(i:Int)(t:Tok):(bo prog w).is (.inl i) (.int i t)=true:=nj i t
theorem kc(prog:Program)(w:World)(x:Str)(t:Tok):(bo prog w).is (.inr x) (.str x t)=true:=ni x t
inductive V where
 |non|bl (b:Bool)|int (i:Int)|str (x:Str)|byt (b:Array UInt8)|flt (b:UInt64)|ref (a:Addr)|ty (n:String)
 deriving DecidableEq
noncomputable def RelV:V->Value->Prop
 | .non,u=>u=Value.none
 | .bl b,u=>u=Value.bool b
 | .int i,u=>∃t,u=Value.int i t
 | .str x,u=>∃t,u=Value.str x t
 | .byt b,u=>∃t,u=Value.bytes b t
 | .flt b,u=>∃t,u=Value.float b t
 | .ref a,u=>u=Value.ref a
 | .ty n,u=>u=Value.type n
abbrev Vals:List V->List Value->Prop:=Paired RelV
theorem Vals.length{xs:List V}{us:List Value}(r:Vals xs us):xs.length=us.length:=uL r
theorem Vals.get:∀{xs:List V}{us:List Value}{i:Nat}{x:V},Vals xs us->xs[i]?=some x->∃u,us[i]?=some u/\RelV x u
 |_,_,_,_,.nil,e=>by simp at e
 |_,_,0,_,.cons r _,e=>by simp at e;subst e;exact⟨_,rfl,r⟩
 |_,_,i+1,x,.cons _ t,e=>by obtain⟨u,h1,h2⟩:=Vals.get (i:=i) (x:=x) t (by simpa using e);exact⟨u,by simpa using h1,h2⟩
theorem Vals.append{xs ys:List V}{us ws:List Value}(hI:Vals xs us):Vals ys ws->Vals (xs++ys) (us++ws):=by
 induction hI with
 |nil=>exact fun s=>s
 |cons r t ih=>exact fun s=>.cons r (ih s)
noncomputable def r8:Option V->Option Value->Prop
 |some v,some u=>RelV v u
 |none,none=>True
 |_,_=>False
def KV{κ:Type}:List (κ×V)->List (κ×Value)->Prop:=Paired fun(p:κ×V) (q:κ×Value)=>p.1=q.1/\RelV p.2 q.2
noncomputable def kV:Key->V
 | .inl i=>.int i
 | .inr x=>.str x
inductive HO where
 |lst (xs:List V)
 |tup (xs:List V)
 |dK (kvs:List (Key×V))|dT (kvs:List (List Key×V))
 |set (S:Int->Bool) (n:Nat)
 |ins (C dx:Addr) (fs:List (Str×V))
 |own (x:Addr)
 |xd (fs:List (Str×V))
 |met (f x:Addr)
 |rng (lo hi:Int)
 |frz (o:Obj) (u:HO)
 |tbl (ps:Array Value)
 |ext (φ:Heap->Prop)
noncomputable abbrev Hp:=Addr->Option HO
noncomputable def upd(H:Hp)(a:Addr)(o:HO):Hp:=fun b=>if b=a then some o else H b
theorem af{H:Hp}{a:Addr}{o:HO}:upd H a o a=some o:=by unfold upd;rw[um rfl]
theorem ax{H:Hp}{a b:Addr}{o:HO}(h:b≠a):upd H a o b=H b:=by unfold upd;rw[uo h]
theorem pC{H:Hp}{a:Addr}{o u:HO}:upd (upd H a o) a u=upd H a u:=by funext b;unfold upd;split<;>rfl
theorem mj{H:Hp}{a b:Addr}{o u:HO}(h:H a=some o)(h':H b=some u)(d:o≠u):a≠b:=by intro e;subst e;rw[h]at h';exact d (vJ h')
theorem bW{H:Hp}{a b:Addr}{o:HO}(h:H a=some o)(h':H b=none):a≠b:=by intro e;subst e;rw[h]at h';cases h'
section
variable(P:Program)(w:World)
noncomputable def bQ(H:Hp)(h:Heap)(a:Addr):HO->Prop
 | .lst xs=>xs.length<=sizeLine/\∃(its:List Value)(n:Nat),Vals xs its/\h.get? a=some {cls:=.type "list",data:=.seq its.toArray n}
 | .tup xs=>xs.length<=sizeLine/\∃its:List Value,Vals xs its/\IsTup h a its.toArray
 | .dK kvs=>kvs.length<=sizeLine/\(a==sysModules)=false/\∃vs,KV kvs vs/\h.DictOf (bo P w) a vs
 | .dT kvs=>kvs.length<=sizeLine/\(a==sysModules)=false/\∃xs:List (List Key×Addr×Value),
  Paired (fun(p:List Key×V) (q:List Key×Addr×Value)=>p.1=q.1/\H q.2.1=some (.tup (p.1.map kV))/\RelV p.2 q.2.2) kvs xs/\
  ∃o es ep,h.get? a=some o/\o.ExactDict/\o.data=.dict es ep/\es.toList=xs.map (entryOfKey (tupleKind (bo P w)))/\(xs.map (·.1)).Nodup
 | .set S n=>h.SetOf (intKind P w) a S n
 | .ins C dx fs=>H dx=some (.own a)/\fs.length<=1000/\dx≠a/\h.get? a=some (PySem.W.instObj C dx)/\
  ∃mA,h.Ns1 dx mA/\(∀f,r8 (fs.lookup f) (mA f))/\PySem.Within mA (fs.map (·.1))
 | .own _=>∃o,h.get? a=some o
 | .xd fs=>∃mA,h.Ns1 a mA/\∀f,r8 (fs.lookup f) (mA f)
 | .rng lo hi=>∃t u v,h.get? a=some {cls:=.type "range",data:=.fields #[.int lo t,.int hi u,.int 1 v]}
 | .frz o u=>h.get? a=some o/\bQ H h a u
 | .tbl ps=>h.get? a=some {cls:=.none,data:=.fields ps}
 | .met f x=>h.get? a=some (PySem.W.methodObj (.ref f) (.ref x))
 | .ext φ=>φ h/\(∃o,h.get? a=some o)/\∀h1 h2:Heap,φ h1->(∀o,h1.get? a=some o->h2.get? a=some o)->φ h2
def HOk(H:Hp)(h:Heap):Prop:=∀a o,H a=some o->bQ P w H h a o
end
section
variable{P:Program}{w:World}{H H':Hp}{h h':Heap}{a:Addr}{o:HO}
theorem bQ.lt(x:bQ P w H h a o):a<h.objs.size:=by
 cases o with
 |lst xs=>obtain⟨_,_,_,_,e⟩:=x;exact uw e
 |tup xs=>obtain⟨_,_,_,p⟩:=x;exact p.lt
 |dK kvs=>obtain⟨_,_,_,_,o,_,_,e,_⟩:=x;exact uw e
 |dT kvs=>obtain⟨_,_,_,_,o,_,_,e,_⟩:=x;exact uw e
 |set S n=>obtain⟨o,_,_,_,e,_⟩:=x;exact uw e
 |ins C dx fs=>obtain⟨_,_,_,e,_⟩:=x;exact uw e
 |own y=>obtain⟨_,e⟩:=x;exact uw e
 |xd fs=>obtain⟨_,⟨_,_,_,e,_⟩,_⟩:=x;exact uw e
 |rng lo hi=>obtain⟨_,_,_,e⟩:=x;exact uw e
 |frz ob u=>obtain⟨e,_⟩:=x;exact uw e
 |tbl ps=>exact uw (show h.get? a=some _ from x)
 |met f y=>exact uw (show h.get? a=some _ from x)
 |ext φ=>obtain⟨_,⟨_,e⟩,_⟩:=x;exact uw e
theorem Paired.mapP{α β:Type}{F G:α->β->Prop}{l₁:List α}{l₂:List β}(hI:Paired F l₁ l₂):(∀a b,F a b->G a b)->Paired G l₁ l₂:=by
 induction hI with
 |nil=>exact fun _=>.nil
 |cons r t ih=>exact fun f=>.cons (f _ _ r) (ih f)
theorem bQ.stay(x:bQ P w H h a o)(k:∀b u,(b=a\/H b=some (.own a))->h.get? b=some u->h'.get? b=some u)
  (ho:∀b,H b=some (.own a)->H' b=some (.own a)) (ht:∀b xs,H b=some (.tup xs)->H' b=some (.tup xs)):bQ P w H' h' a o:=by
 induction o with
 |lst xs=>obtain⟨z,its,n,r,e⟩:=x;exact⟨z,its,n,r,k _ _ (.inl rfl) e⟩
 |tup xs=>obtain⟨z,its,r,ob,e,c⟩:=x;exact⟨z,its,r,ob,k _ _ (.inl rfl) e,c⟩
 |dK kvs=>obtain⟨z,y,vs,r,ob,es,ep,e,c⟩:=x;exact⟨z,y,vs,r,ob,es,ep,k _ _ (.inl rfl) e,c⟩
 |dT kvs=>obtain⟨z,y,xs,r,ob,es,ep,e,c⟩:=x;exact⟨z,y,xs,Paired.mapP r fun p q z=>⟨z.1,ht _ _ z.2.1,z.2.2⟩,ob,es,ep,k _ _ (.inl rfl) e,c⟩
 |set S n=>obtain⟨ob,es,ep,t,e,c⟩:=x;exact⟨ob,es,ep,t,k _ _ (.inl rfl) e,c⟩
 |ins C dx fs=>obtain⟨d,z,ne,e,mA,⟨od,es,ep,e2,c⟩,r⟩:=x;exact⟨ho _ d,z,ne,k _ _ (.inl rfl) e,mA,⟨od,es,ep,k _ _ (.inr d) e2,c⟩,r⟩
 |own y=>obtain⟨ob,e⟩:=x;exact⟨ob,k _ _ (.inl rfl) e⟩
 |xd fs=>obtain⟨mA,⟨od,es,ep,e,c⟩,r⟩:=x;exact⟨mA,⟨od,es,ep,k _ _ (.inl rfl) e,c⟩,r⟩
 |rng lo hi=>obtain⟨t,u,v,e⟩:=x;exact⟨t,u,v,k _ _ (.inl rfl) e⟩
 |frz ob u ih=>obtain⟨e,q⟩:=x;exact⟨k _ _ (.inl rfl) e,ih q⟩
 |tbl ps=>have e:h.get? a=some {cls:=.none,data:=.fields ps}:=x;show h'.get? a=some {cls:=.none,data:=.fields ps};exact k a _ (.inl rfl) e
 |met f y=>have e:h.get? a=some (PySem.W.methodObj (.ref f) (.ref y)):=x;show h'.get? a=some (PySem.W.methodObj (.ref f) (.ref y));exact k a _ (.inl rfl) e
 |ext φ=>obtain⟨p,⟨o,e⟩,st⟩:=x;exact⟨st _ _ p fun o q=>k _ _ (.inl rfl) q,⟨o,k _ _ (.inl rfl) e⟩,st⟩
theorem HOk.lt(x:HOk P w H h)(e:H a=some o):a<h.objs.size:=(x a o e).lt
theorem HOk.fresh(x:HOk P w H h)(e:h.objs.size<=a):H a=none:=by
 cases q:H a with
 |none=>rfl
 |some u=>exact absurd (uI (x.lt q) e) (vR _)
theorem HOk.kept(x:HOk P w H h)(k:∀b u,h.get? b=some u->h'.get? b=some u):HOk P w H h':=fun a o e=>(x a o e).stay (fun b u _ q=>k b u q) (fun _ q=>q) fun _ _ q=>q
theorem HOk.laid(x:HOk P w H h)(k:∀b u,h.get? b=some u->h'.get? b=some u)(hp:h.objs.size<=a)(new:bQ P w (upd H a o) h' a o):HOk P w (upd H a o) h':=fun b u e=>by
 have hn:=x.fresh hp;by_cases hb:b=a
 ·subst hb;rw[af]at e;cases e;exact new
 ·rw[ax hb]at e;exact(x b u e).stay (fun c v _ q=>k c v q) (fun c q=>by rw[ax (bW q hn)];exact q) fun c xs q=>by rw[ax (bW q hn)];exact q
end
def Rd(H:Hp)(a:Addr)(u:HO):Prop:=H a=some u\/∃o,H a=some (.frz o u)
theorem Rd.ok{P:Program}{w:World}{H:Hp}{h:Heap}{a:Addr}{u:HO}(r:Rd H a u)(x:HOk P w H h):bQ P w H h a u:=by
 rcases r with r|⟨o,r⟩
 ·exact x a u r
 ·obtain⟨_,q⟩:=x a _ r;exact q
noncomputable def Mut:Option HO->Prop
 |some (.lst _)=>True
 |some (.dK _)=>True
 |some (.dT _)=>True
 |some (.set _ _)=>True
 |some (.ins _ _ _)=>True
 |some (.ext _)=>True
 |_=>False
section
variable{P:Program}{w:World}{H:Hp}{h h':Heap}{x e:Addr}{o':HO}
theorem HOk.write(ok:HOk P w H h)(mu:Mut (H x))(he:e=x\/H e=some (.own x))(k:∀b u,b≠e->h.get? b=some u->h'.get? b=some u)(heo:∃u,h'.get? e=some u)
  (new:bQ P w (upd H x o') h' x o'):HOk P w (upd H x o') h':=fun b u q=>by
 have nown:∀c y,H c=some (.own y)->c≠x:=fun c y r z=>by subst z;rw[r]at mu;exact mu
 have ntup:∀c xs,H c=some (.tup xs)->c≠x:=fun c xs r z=>by subst z;rw[r]at mu;exact mu
 by_cases hb:b=x
 ·subst hb;rw[af]at q;cases q;exact new
 ·rw[ax hb]at q;by_cases hbe:b=e
  ·have q':H b=some (.own x):=by
    rcases he with z|z
    ·exact absurd (hbe.trans z) hb
    ·rw[hbe];exact z
   rw[q]at q';cases q';obtain⟨v,hv⟩:=heo;exact⟨v,by rw[hbe];exact hv⟩
  ·refine(ok b u q).stay (fun c v hc r=>k c v ?_ r) (fun c r=>by rw[ax (nown c b r)];exact r) fun c xs r=>by rw[ax (ntup c xs r)];exact r
   rcases hc with rfl|hc
   ·exact hbe
   ·rintro rfl;rcases he with z|z
    ·exact nown c b hc z
    ·rw[hc]at z;cases z;exact hb rfl
end
structure Un(fs ex:List Addr)(H H':Hp)(h h':Heap):Prop where
 keep:∀b o,h.get? b=some o->H b=none->b∉fs->b∉ex->h'.get? b=some o
 slot:∀b o,h.get? b=some o->H b=none->b∈fs->b∉ex->∃sl,h'.get? b=some {o with slots:=sl}
 free:∀b o,h.get? b=some o->H b=none->b∉ex->H' b=none
 there:∀b o,h.get? b=some o->b∉ex->∃o',h'.get? b=some o'
 tups:∀b xs,H b=some (.tup xs)->H' b=some (.tup xs)
 frzs:∀b o u,H b=some (.frz o u)->H' b=some (.frz o u)
 tbls:∀b ps,H b=some (.tbl ps)->∃more,H' b=some (.tbl (ps++more))
section
variable{fs fs' ex ex':List Addr}{H H1 H2:Hp}{h h1 h2 h':Heap}{a x e:Addr}{o:HO}
theorem Un.any(u:Un fs ex H H1 h h1){b:Addr}{ob:Obj}(q:h.get? b=some ob)(n:H b=none)(hx:b∉ex):∃sl,h1.get? b=some {ob with slots:=sl}:=by
 by_cases hb:b∈fs
 ·exact u.slot b ob q n hb hx
 ·exact⟨ob.slots,u.keep b ob q n hb hx⟩
theorem Un.kept(k:∀b u,h.get? b=some u->h'.get? b=some u):Un fs ex H H h h':=
 ⟨fun b ob q _ _ _=>k b ob q,fun b ob q _ _ _=>⟨ob.slots,k b ob q⟩,fun _ _ _ n _=>n,fun b ob q _=>⟨ob,k b ob q⟩,fun _ _ q=>q,fun _ _ _ q=>q,fun _ ps q=>⟨#[],by rw[q];simp⟩⟩
theorem Un.refl:Un fs ex H H h h:=Un.kept fun _ _ q=>q
theorem Un.laid(k:∀b u,h.get? b=some u->h'.get? b=some u)(hp:h.objs.size<=a)(hn:H a=none):Un fs ex H (upd H a o) h h' where
 keep:=fun b u q _ _ _=>k b u q
 slot:=fun b u q _ _ _=>⟨u.slots,k b u q⟩
 free:=fun b u q n _=>by rw[ax (uX (uI (uw q) hp))];exact n
 there:=fun b u q _=>⟨u,k b u q⟩
 tups:=fun b xs q=>by rw[ax (bW q hn)];exact q
 frzs:=fun b u xs q=>by rw[ax (bW q hn)];exact q
 tbls:=fun b ps q=>⟨#[],by rw[ax (bW q hn),q];simp⟩
theorem Un.write(mu:Mut (H x))(he:e=x\/H e=some (.own x))(k:∀b u,b≠e->h.get? b=some u->h'.get? b=some u)(heo:∃u,h'.get? e=some u):Un fs ex H (upd H x o) h h':=by
 have hx:∀b,H b=none->b≠x:=fun b n z=>by subst z;rw[n]at mu;exact mu
 have hb:∀b,H b=none->b≠e:=fun b n z=>by
  subst z;rcases he with r|r
  ·exact hx b n r
  ·rw[n]at r;cases r
 have hm:∀b u,H b=some u->¬Mut (some u)->b≠x:=fun b u q nm z=>by subst z;rw[q]at mu;exact nm mu
 refine⟨fun b u q n _ _=>k b u (hb b n) q,fun b u q n _ _=>⟨u.slots,k b u (hb b n) q⟩,fun b u q n _=>by rw[ax (hx b n)];exact n,fun b u q _=>?_,
  fun b xs q=>by rw[ax (hm b _ q fun z=>z)];exact q,fun b u xs q=>by rw[ax (hm b _ q fun z=>z)];exact q,fun b ps q=>⟨#[],by rw[ax (hm b _ q fun z=>z),q];simp⟩⟩
 by_cases hbe:b=e
 ·subst hbe;exact heo
 ·exact⟨u,k b u hbe q⟩
end
noncomputable def trk(h:Heap)(H:Hp):List Addr:=(List.range h.objs.size).filter fun a=>(H a).isSome
noncomputable def jr(h:Heap)(H:Hp):Heap:=PySem.W.hideAll h (trk h H)
theorem nu(h:Heap)(H:Hp):(jr h H).objs.size=h.objs.size:=PySem.W.hideAll_size _ _
theorem oJ{h:Heap}{H:Hp}{b:Addr}{o:Obj}(e:h.get? b=some o)(n:H b=none):(jr h H).get? b=some o:=
 PySem.W.hideAll_get _ e fun hm=>by have q:(H b).isSome=true:=(vT.mp hm).2;rw[n]at q;simp at q
theorem p5{h:Heap}{H:Hp}{b:Addr}{o:Obj}(e:(jr h H).get? b=some o):h.get? b=some o/\H b=none:=by
 have e':h.get? b=some o:=PySem.W.of_hideAll (trk h H) e;refine⟨e',?_⟩;cases q:H b with
 |none=>rfl
 |some x=>have hm:b∈trk h H:=vT.mpr ⟨vI.mpr (uw e'),by simp[q]⟩;have z:(jr h H).get? b=none:=PySem.W.hideAll_none (trk h H) hm;rw[z]at e;cases e
structure Mod(K:Frag)(mg:Str->Option Value)(base:Heap):Prop where
 kin:K.In base
 glob:base.Ns mainGlobals mg
 blt:∃mb,base.Ns builtinsNs mb/\∀x:Str,x≠"__name__"->mb x=bootBuiltins x
 nolimit:base.NoLimit
structure Cx where
 prog:Program
 w:World
 K:Frag
 mg:Str->Option Value
 base:Heap
 A:Around
 N:List Str
 s₀:Shared
 H₀:Hp
 env:Env
 outer:List Env
 stack:List Env
 ex:List Addr
 fn:Str->Bool
 calm:Bool
 pn:List (Addr×Obj)
 xe:Value->Shared->Prop
noncomputable def frs(l:List Env):List Addr:=l.filterMap (·.frame)
noncomputable abbrev Cx.fs(X:Cx):List Addr:=frs X.outer
def Vis(sc:Scope)(x:Str):Prop:=sc.names.lookup x=some .local\/sc.names.lookup x=some .cell\/sc.names.lookup x=some .free
def Loc(sc:Scope)(x:Str):Prop:=sc.names.lookup x=some .local\/sc.names.lookup x=some .cell
def Look(env:Env)(h:Heap)(m:Str->Option Value)(x:Str)(u:Value):Prop:=
 (env.kindOf x=some .local/\m x=some u)\/((env.kindOf x=some .cell\/env.kindOf x=some .free)/\∃c,env.cells.lookup x=some c/\h.IsCell c (some u))
structure Cx.Ok(X:Cx):Prop where
 mod:Mod X.K X.mg X.base
 kind:X.env.scope.kind=.function
 glob:X.env.globals=mainGlobals
 blt:X.env.builtins=builtinsNs
 above:X.s₀.heap.objs.size<=X.env.locals
 inj:∀x y c,X.env.cells.lookup x=some c->X.env.cells.lookup y=some c->x=y
 has:∀x,(X.env.kindOf x=some .cell\/X.env.kindOf x=some .free)->∃c,X.env.cells.lookup x=some c
 cab:∀x c,X.fn x=true->X.env.cells.lookup x=some c->X.s₀.heap.objs.size<=c
 hd:X.calm=true->X.A.handled=none
 frames:X.A.frames=some X.stack
 stk:X.stack=X.outer\/(X.stack=X.env::X.outer/\X.env.frame=some X.env.locals)
 exf:∀b∈X.ex,b≠X.env.locals/\∀x c,X.env.cells.lookup x=some c->c≠b
 bs:∀b o,X.base.get? b=some o->X.s₀.heap.get? b=some o/\X.H₀ b=none
 bsz:X.base.objs.size<=X.s₀.heap.objs.size
 noex:∀b o,X.base.get? b=some o->b∉X.ex
 exfs:∀b∈X.ex,b∉X.fs
 funs:X.s₀.heap.FunFrames X.base X.outer
 frf:∀b∈X.fs,X.H₀ b=none
structure Inv(X:Cx)(pins:List (Addr×Obj))(σ:List (Option V))(H:Hp)(s:Shared):Prop where
 ok:X.Ok
 os:s.os=X.s₀.os
 bare:AllBare s.gens
 base:Un X.fs X.ex X.H₀ H X.s₀.heap s.heap
 loc:∃m,s.heap.Ns X.env.locals m/\∀(i:Nat)(x:Str)(v:V),X.N[i]?=some x->σ[i]?=some (some v)->Vis X.env.scope x->∃u,RelV v u/\Look X.env s.heap m x u
 cell:∀x c,X.env.cells.lookup x=some c->∃v,s.heap.IsCell c v
 free:H X.env.locals=none
 freeC:∀x c,X.env.cells.lookup x=some c->H c=none
 pin:∀p∈X.pn++pins,s.heap.get? p.1=some p.2/\H p.1=none/\p.1≠X.env.locals/\p.1∉X.fs/\∀v,p.2.data≠ .cell v
 hok:HOk X.prog X.w H s.heap
 len:σ.length=X.N.length
section
variable{X:Cx}{pins:List (Addr×Obj)}{σ:List (Option V)}{H H':Hp}{s:Shared}{h':Heap}
theorem Cx.Ok.nofr(ok:X.Ok){b:Addr}{o:Obj}(e:X.base.get? b=some o):b∉X.fs:=fun hb=>by have:=(ok.funs.mem hb).1;rw[e]at this;cases this
theorem Inv.bs(I:Inv X pins σ H s):∀b o,X.base.get? b=some o->s.heap.get? b=some o/\H b=none:=fun b o e=>⟨I.base.keep b o (I.ok.bs b o e).1 (I.ok.bs b o e).2 (I.ok.nofr e) (I.ok.noex b o e),I.base.free b o (I.ok.bs b o e).1 (I.ok.bs b o e).2 (I.ok.noex b o e)⟩
theorem Inv.bk(I:Inv X pins σ H s):∀b o,X.base.get? b=some o->s.heap.get? b=some o:=fun b o e=>(I.bs b o e).1
theorem Inv.mod(I:Inv X pins σ H s):Mod X.K X.mg X.base:=I.ok.mod
theorem Inv.kIn(I:Inv X pins σ H s):X.K.In s.heap:=I.ok.mod.kin.keeps I.bk
theorem Inv.lt(I:Inv X pins σ H s):X.env.locals<s.heap.objs.size:=let ⟨_,hn,_⟩:=I.loc;hn.lt
theorem Inv.sz(I:Inv X pins σ H s):X.s₀.heap.objs.size<=s.heap.objs.size:=vS I.ok.above (Nat.le_of_lt I.lt)
theorem Inv.nofs(I:Inv X pins σ H s){a:Addr}(h:s.heap.objs.size<=a):a∉X.fs:=fun hb=>by obtain⟨_,o,ho,_⟩:=I.ok.funs.mem hb;exact absurd (uI (uw ho) (vS I.sz h)) (vR _)
theorem Inv.cne(I:Inv X pins σ H s):∀x c,X.env.cells.lookup x=some c->c≠X.env.locals:=fun x c e z=>by obtain⟨v,o,ho,hd⟩:=I.cell x c e;obtain⟨m,⟨o',es,ep,ho',hd',_⟩,_⟩:=I.loc;rw[z,ho']at ho;cases ho;rw[hd']at hd;cases hd
theorem Inv.funs(I:Inv X pins σ H s):s.heap.FunFrames X.base X.outer:=by
 have all:∀(l:List Env),(∀b∈frs l,b∈X.fs)->X.s₀.heap.FunFrames X.base l->s.heap.FunFrames X.base l:=by
  intro l
  induction l with
  |nil=>intro _ _;trivial
  |cons env r ih=>intro hs hl;obtain⟨hk,⟨L,o,hf,hn,ho,hd⟩,hr⟩:=hl;have hL:L∈X.fs:=hs L (by unfold frs;rw[List.filterMap_cons,hf];exact uy);obtain⟨sl,e⟩:=I.base.slot L o ho (I.ok.frf L hL) hL fun z=>I.ok.exfs L z hL;exact⟨hk,⟨L,_,hf,hn,e,hd⟩,ih (fun b hb=>hs b (by unfold frs;rw[List.filterMap_cons,hf];exact uv _ hb)) hr⟩
 exact all X.outer (fun _ hb=>hb) I.ok.funs
theorem Inv.stack(I:Inv X pins σ H s):s.heap.FunFrames X.base X.stack:=by
 rcases I.ok.stk with e|⟨e,hf⟩
 ·rw[e];exact I.funs
 ·rw[e];obtain⟨m,hn,_⟩:=I.loc;refine .cons (by rw[I.ok.kind];decide) hf hn ?_ I.funs;exact Heap.get?_none_of_le (vS I.ok.bsz I.ok.above)
theorem Inv.stkSub(I:Inv X pins σ H s):∀b∈frs X.stack,b∈X.env.locals::X.fs:=fun b hb=>by
 rcases I.ok.stk with e|⟨e,hf⟩
 ·rw[e]at hb;exact uv _ hb
 ·rw[e]at hb;unfold frs at hb;rw[List.filterMap_cons,hf]at hb;exact hb
theorem Inv.stkFree(I:Inv X pins σ H s):∀b∈frs X.stack,H b=none:=fun b hb=>by
 rcases uY.mp (I.stkSub b hb)with e|hb
 ·rw[e];exact I.free
 ·obtain⟨_,o,ho,_⟩:=I.ok.funs.mem hb;exact I.base.free b o ho (I.ok.frf b hb) fun z=>I.ok.exfs b z hb
theorem Inv.step{g':Array GenState}{t':Nat}{d':Drawn}{ch:List Addr}(I:Inv X pins σ H s)
  (hch:∀b∈ch,(b∈X.ex\/X.s₀.heap.objs.size<=b)/\b≠X.env.locals/\(∀x c,X.env.cells.lookup x=some c->c≠b)/\∀p∈X.pn++pins,p.1≠b)
  (keep:∀b o,b≠X.env.locals->b∉X.fs->b∉ch->s.heap.get? b=some o->H b=none->h'.get? b=some o)
  (slot:∀b o,b≠X.env.locals->b∈X.fs->b∉ch->s.heap.get? b=some o->H b=none->∃sl,h'.get? b=some {o with slots:=sl}) (free:∀b o,b∉ch->s.heap.get? b=some o->H b=none->H' b=none)
  (there:∀b o,b∉ch->s.heap.get? b=some o->∃o',h'.get? b=some o')
  (tups:∀b xs,H b=some (.tup xs)->H' b=some (.tup xs)) (frzs:∀b o u,H b=some (.frz o u)->H' b=some (.frz o u)) (tbls:∀b ps,H b=some (.tbl ps)->∃more,H' b=some (.tbl (ps++more)))
  (ns:∀m,s.heap.Ns X.env.locals m->h'.Ns X.env.locals m) (hok:HOk X.prog X.w H' h') (hg:AllBare g'):
  Inv X pins σ H' {s with heap:=h',gens:=g',drawn:=d',toks:=t'}:=by
 have neL:∀b o,X.s₀.heap.get? b=some o->b≠X.env.locals:=fun b o e=>uX (uI (uw e) I.ok.above);have neC:∀b o,X.s₀.heap.get? b=some o->b∉X.ex->b∉ch:=fun b o e hx hb=>by
  rcases (hch b hb).1 with z|z
  ·exact hx z
  ·exact absurd (uI (uw e) z) (vR _)
 have cellK:∀x c,X.env.cells.lookup x=some c->∀v,s.heap.IsCell c v->h'.IsCell c v:=fun x c e v ⟨o,ho,hd⟩=>by
  have nch:c∉ch:=fun z=>(hch c z).2.2.1 x c e rfl;by_cases hc:c∈X.fs
  ·obtain⟨sl,q⟩:=slot c o (I.cne x c e) hc nch ho (I.freeC x c e);exact⟨_,q,hd⟩
  ·exact⟨o,keep c o (I.cne x c e) hc nch ho (I.freeC x c e),hd⟩
 refine⟨I.ok,I.os,hg,⟨fun b o e n hb hx=>?_,fun b o e n hb hx=>?_,fun b o e n hx=>?_,fun b o e hx=>?_,fun b xs e=>tups b xs (I.base.tups b xs e),fun b o xs e=>frzs b o xs (I.base.frzs b o xs e),fun b ps e=>?_⟩,?_,fun x c e=>?_,?_,fun x c e=>?_,fun p hp=>?_,hok,I.len⟩
 ·exact keep b o (neL b o e) hb (neC b o e hx) (I.base.keep b o e n hb hx) (I.base.free b o e n hx)
 ·obtain⟨sl,e1⟩:=I.base.slot b o e n hb hx;obtain⟨sl',e2⟩:=slot b _ (neL b o e) hb (neC b o e hx) e1 (I.base.free b o e n hx);exact⟨sl',e2⟩
 ·obtain⟨o',e1⟩:=I.base.there b o e hx;exact free b o' (neC b o e hx) e1 (I.base.free b o e n hx)
 ·obtain⟨o',e1⟩:=I.base.there b o e hx;exact there b o' (neC b o e hx) e1
 ·obtain⟨m1,e1⟩:=I.base.tbls b ps e;obtain⟨m2,e2⟩:=tbls b _ e1;exact⟨m1++m2,by rw[e2,Array.append_assoc]⟩
 ·obtain⟨m,hn,hl⟩:=I.loc;refine⟨m,ns m hn,fun i x v e1 e2 e3=>?_⟩;obtain⟨u,r,l⟩:=hl i x v e1 e2 e3;refine⟨u,r,?_⟩;rcases l with l|⟨k,c,e,z⟩
  ·exact .inl l
  ·exact .inr ⟨k,c,e,cellK x c e _ z⟩
 ·obtain⟨v,z⟩:=I.cell x c e;exact⟨v,cellK x c e v z⟩
 ·obtain⟨m,⟨o,_,_,ho,_⟩,_⟩:=I.loc;exact free _ o (fun z=>(hch _ z).2.1 rfl) ho I.free
 ·obtain⟨v,o,ho,hd⟩:=I.cell x c e;exact free c o (fun z=>(hch c z).2.2.1 x c e rfl) ho (I.freeC x c e)
 ·obtain⟨e,n,ne,nf,d⟩:=I.pin p hp;have nch:p.1∉ch:=fun z=>(hch p.1 z).2.2.2 p hp rfl;exact⟨keep p.1 p.2 ne nf nch e n,free p.1 p.2 nch e n,ne,nf,d⟩
theorem Inv.un{t':Nat}(I:Inv X pins σ H s)(u:Un X.fs [] H H' s.heap h')(hok:HOk X.prog X.w H' h'):Inv X pins σ H' {s with heap:=h',toks:=t'}:=by
 obtain⟨m,⟨o,es,ep,ho,r⟩,_⟩:=id I.loc;obtain⟨sl,hL⟩:=u.any ho I.free (by simp)
 exact I.step (g':=s.gens) (d':=s.drawn) (ch:=[]) (fun _ z=>nomatch z) (fun b o _ hb _ e n=>u.keep b o e n hb (by simp)) (fun b o _ hb _ e n=>u.slot b o e n hb (by simp)) (fun b o _ e n=>u.free b o e n (by simp)) (fun b o _ e=>u.there b o e (by simp)) u.tups u.frzs u.tbls (fun m' hm=>by
  obtain⟨o',es',ep',ho',r'⟩:=hm;rw[ho]at ho';cases ho'
  exact⟨_,es',ep',hL,r'⟩) hok I.bare
theorem Inv.call{g':Array GenState}{t':Nat}{d':Drawn}{ch:List Addr}(I:Inv X pins σ H s)(u:Un (frs X.stack) ch H H' s.heap h')(hok:HOk X.prog X.w H' h')(hg:AllBare g')
  (hch:∀b∈ch,(b∈X.ex\/X.s₀.heap.objs.size<=b)/\b≠X.env.locals/\(∀x c,X.env.cells.lookup x=some c->c≠b)/\∀p∈X.pn++pins,p.1≠b):
  Inv X pins σ H' {s with heap:=h',gens:=g',drawn:=d',toks:=t'}:=by
 obtain⟨m,⟨o,es,ep,ho,r⟩,_⟩:=id I.loc;obtain⟨sl,hL⟩:=u.any ho I.free fun z=>(hch _ z).2.1 rfl
 exact I.step (ch:=ch) hch (fun b o hL hb hc e n=>u.keep b o e n (fun z=>(uY.mp (I.stkSub b z)).elim hL hb) hc) (fun b o _ _ hc e n=>u.any e n hc) (fun b o hc e n=>u.free b o e n hc) (fun b o hc e=>u.there b o e hc) u.tups u.frzs u.tbls (fun m' hm=>by
  obtain⟨o',es',ep',ho',r'⟩:=hm;rw[ho]at ho';cases ho'
  exact⟨_,es',ep',hL,r'⟩) hok hg
theorem Inv.turned{t':Nat}{it:Addr}(I:Inv X pins σ H s)(k:∀b o,b≠it->s.heap.get? b=some o->h'.get? b=some o)(hn:H it=none)(hL:it≠X.env.locals)
  (h1:it∈X.ex\/X.s₀.heap.objs.size<=it) (h2:∀x c,X.env.cells.lookup x=some c->c≠it) (h3:∀p∈X.pn++pins,p.1≠it):Inv X pins σ H {s with heap:=h',toks:=t'}:=by
 have nit:∀b u,H b=some u->b≠it:=fun b u e z=>by rw[z,hn]at e;cases e
 refine I.step (g':=s.gens) (d':=s.drawn) (ch:=[it]) (fun b hb=>?_) (fun b o _ _ hc e _=>k b o (fun z=>hc (by simp[z])) e) (fun b o _ _ hc e _=>⟨o.slots,k b o (fun z=>hc (by simp[z])) e⟩) (fun _ _ _ _ n=>n)
  (fun b o hc e=>⟨o,k b o (fun z=>hc (by simp[z])) e⟩) (fun _ _ e=>e) (fun _ _ _ e=>e) (fun b ps e=>⟨#[],by rw[e];simp⟩) (fun m hm=>?_) (fun b u e=>?_) I.bare
 ·have e:b=it:=by simpa using hb
  subst e;exact⟨h1,hL,h2,h3⟩
 ·obtain⟨o,es,ep,ho,r⟩:=hm;exact⟨o,es,ep,k _ o (Ne.symm hL) ho,r⟩
 ·refine(I.hok b u e).stay (fun c v hc q=>k c v ?_ q) (fun _ q=>q) fun _ _ q=>q;rcases hc with z|z
  ·rw[z];exact nit b u e
  ·exact nit c _ z
theorem Inv.tok(I:Inv X pins σ H s)(t:Nat):Inv X pins σ H {s with toks:=t}:=I.un (h':=s.heap) (t':=t) Un.refl I.hok
theorem Inv.kept{t':Nat}(I:Inv X pins σ H s)(k:∀b u,s.heap.get? b=some u->h'.get? b=some u):Inv X pins σ H {s with heap:=h',toks:=t'}:=I.un (Un.kept k) (I.hok.kept k)
theorem Inv.laid{a:Addr}{o:HO}{t':Nat}(I:Inv X pins σ H s)(k:∀b u,s.heap.get? b=some u->h'.get? b=some u)(hp:s.heap.objs.size<=a)(new:bQ X.prog X.w (upd H a o) h' a o):
 Inv X pins σ (upd H a o) {s with heap:=h',toks:=t'}:=I.un (Un.laid k hp (I.hok.fresh hp)) (I.hok.laid k hp new)
theorem Inv.write{x e:Addr}{o:HO}{t':Nat}(I:Inv X pins σ H s)(mu:Mut (H x))(he:e=x\/H e=some (.own x))(k:∀b u,b≠e->s.heap.get? b=some u->h'.get? b=some u)(heo:∃u,h'.get? e=some u)
 (new:bQ X.prog X.w (upd H x o) h' x o):Inv X pins σ (upd H x o) {s with heap:=h',toks:=t'}:=I.un (Un.write mu he k heo) (I.hok.write mu he k heo new)
theorem Inv.weak{σ':List (Option V)}(I:Inv X pins σ H s)(hl:σ'.length=σ.length)(w:∀(i:Nat) v,σ'[i]?=some (some v)->σ[i]?=some (some v)):Inv X pins σ' H s:=
 ⟨I.ok,I.os,I.bare,I.base,let ⟨m,hn,hl'⟩:=I.loc;⟨m,hn,fun i x v e1 e2 e3=>hl' i x v e1 (w i v e2) e3⟩,I.cell,I.free,I.freeC,I.pin,I.hok,hl.trans I.len⟩
theorem Inv.pins_of{pins':List (Addr×Obj)}(I:Inv X pins σ H s)(h:∀p∈pins',s.heap.get? p.1=some p.2/\H p.1=none/\p.1≠X.env.locals/\p.1∉X.fs/\∀v,p.2.data≠ .cell v):Inv X pins' σ H s:=
 ⟨I.ok,I.os,I.bare,I.base,I.loc,I.cell,I.free,I.freeC,fun p hp=>(uB.mp hp).elim (fun z=>I.pin p (vL _ z)) (h p),I.hok,I.len⟩
theorem j9{N:List Str}(hN:N.Nodup){i j:Nat}{x:Str}(a:N[i]?=some x)(b:N[j]?=some x):i=j:=by obtain⟨h1,e1⟩:=ur.mp a;obtain⟨h2,e2⟩:=ur.mp b;exact(List.getElem_inj hN).mp (e1.trans e2.symm)
theorem iA{M:Model}{A:Around}{E:Value->Shared->Prop}{i:Nat}{x:Str}{v:V}{u:Value}{Q:Unit->Shared->Prop}(I:Inv X pins σ H s)(hN:X.N.Nodup)(hi:X.N[i]?=some x)(hx:Loc X.env.scope x)(r:RelV v u)
  (h:∀s',Inv X pins (σ.set i (some v)) H s'->(∃a,Heap.SameBut a s.heap s'.heap/\(a=X.env.locals\/X.env.cells.lookup x=some a))->Q () s') (hf:X.fn x=true\/X.env.scope.names.lookup x=some .local:=by first|exact .inl rfl|exact .inr rfl|assumption):wpAny M A (storeName X.env x u) Q E s:=by
 obtain⟨m,hn,hl⟩:=id I.loc;have hcls:(X.env.scope.kind== .class||(X.env.scope.kind== .module&&X.env.locals != X.env.globals))=false:=by rw[I.ok.kind];rfl
 have hiσ:i<σ.length:=by rw[I.len];exact(ur.mp hi).1
 have cne:=I.cne;have tracked:∀{a:Addr}{h':Heap},(∃o,s.heap.get? a=some o/\H a=none)->Heap.SameBut a s.heap h'->HOk X.prog X.w H h':=fun {a h'} ha hs b ob e=>by
  obtain⟨_,_,hfree⟩:=ha;refine(I.hok b ob e).stay (fun c w' hc q=>(hs.2 c ?_).trans q) (fun _ q=>q) fun _ _ q=>q;rintro rfl;rcases hc with rfl|hc
  ·rw[hfree]at e;cases e
  ·rw[hfree]at hc;cases hc
 rcases hx with hk|hk
 ·refine wpAny_storeName_local hk hn (fun h' hn' hs=>?_) hcls;obtain⟨oL,_,_,hoL,_⟩:=id hn;refine h _ ⟨I.ok,I.os,I.bare,⟨fun b o e n hb hx=>?_,fun b o e n hb hx=>?_,I.base.free,fun b o e hx=>?_,I.base.tups,I.base.frzs,I.base.tbls⟩,⟨_,hn',fun j y v' e1 e2 e3=>?_⟩,fun y c e=>?_,I.free,I.freeC,fun p hp=>?_,tracked ⟨oL,hoL,I.free⟩ hs,by simpa using I.len⟩ ⟨_,hs,.inl rfl⟩
  ·exact(hs.2 b (uX (uI (uw e) I.ok.above))).trans (I.base.keep b o e n hb hx)
  ·obtain⟨sl,e1⟩:=I.base.slot b o e n hb hx;exact⟨sl,(hs.2 b (uX (uI (uw e) I.ok.above))).trans e1⟩
  ·obtain⟨o',e1⟩:=I.base.there b o e hx;exact⟨o',(hs.2 b (uX (uI (uw e) I.ok.above))).trans e1⟩
  ·by_cases hj:j=i
   ·subst hj;rw[hi]at e1;cases e1;rw[List.getElem?_set_self hiσ]at e2;cases e2;exact⟨u,r,.inl ⟨hk,by simp⟩⟩
   ·rw[List.getElem?_set_ne (Ne.symm hj)]at e2;obtain⟨u',r',q⟩:=hl j y v' e1 e2 e3;refine⟨u',r',?_⟩;rcases q with⟨k,e⟩|⟨k,c,e,z⟩
    ·refine .inl ⟨k,?_⟩;have:y≠x:=fun e=>hj (j9 hN e1 (e▸hi));simp[this,e]
    ·exact .inr ⟨k,c,e,z.sameBut hs (cne y c e)⟩
  ·obtain⟨w',z⟩:=I.cell y c e;exact⟨w',z.sameBut hs (cne y c e)⟩
  ·obtain⟨e,n,ne,nf,d⟩:=I.pin p hp;exact⟨(hs.2 p.1 ne).trans e,n,ne,nf,d⟩
 ·have hfn:X.fn x=true:=by
   rcases hf with z|z
   ·exact z
   ·rw[z]at hk;cases hk
  obtain⟨c,hc⟩:=I.ok.has x (.inl hk);obtain⟨w',z⟩:=I.cell x c hc;refine wpAny_storeName_cell I.ok.kind hk hc z (fun h' hc' hs=>?_);obtain⟨oc,hoc,hocd⟩:=id z;refine h {s with heap:=h'} ⟨I.ok,I.os,I.bare,⟨fun b o e n hb hx=>?_,fun b o e n hb hx=>?_,I.base.free,fun b o e hx=>?_,I.base.tups,I.base.frzs,I.base.tbls⟩,⟨m,hn.sameBut hs (Ne.symm (cne x c hc)),fun j y v' e1 e2 e3=>?_⟩,fun y c' e=>?_,I.free,I.freeC,fun p hp=>?_,tracked ⟨oc,hoc,I.freeC x c hc⟩ hs,by simpa using I.len⟩ ⟨c,hs,.inr hc⟩
  ·exact(hs.2 b (uX (uI (uw e) (I.ok.cab x c hfn hc)))).trans (I.base.keep b o e n hb hx)
  ·obtain⟨sl,e1⟩:=I.base.slot b o e n hb hx;exact⟨sl,(hs.2 b (uX (uI (uw e) (I.ok.cab x c hfn hc)))).trans e1⟩
  ·obtain⟨o',e1⟩:=I.base.there b o e hx;exact⟨o',(hs.2 b (uX (uI (uw e) (I.ok.cab x c hfn hc)))).trans e1⟩
  ·by_cases hj:j=i
   ·subst hj;rw[hi]at e1;cases e1;rw[List.getElem?_set_self hiσ]at e2;cases e2;exact⟨u,r,.inr ⟨.inl hk,c,hc,hc'⟩⟩
   ·rw[List.getElem?_set_ne (Ne.symm hj)]at e2;obtain⟨u',r',q⟩:=hl j y v' e1 e2 e3;refine⟨u',r',?_⟩;rcases q with q|⟨k,c',e,z'⟩
    ·exact .inl q
    ·refine .inr ⟨k,c',e,z'.sameBut hs ?_⟩;rintro rfl;exact hj (j9 hN e1 (I.ok.inj _ _ _ e hc▸hi))
  ·by_cases hcc:c'=c
   ·subst hcc;exact⟨_,hc'⟩
   ·obtain⟨w2,z2⟩:=I.cell y c' e;exact⟨w2,z2.sameBut hs hcc⟩
  ·obtain⟨e,n,ne,nf,d⟩:=I.pin p hp;refine⟨(hs.2 p.1 ?_).trans e,n,ne,nf,d⟩;intro q;rw[q,hoc]at e;have q':oc=p.2:=vJ e;exact d w' (by rw[<-q'];exact hocd)
theorem jM{M:Model}{A:Around}{E:Value->Shared->Prop}{i:Nat}{x:Str}{v:V}{u:Value}{Q:Unit->Shared->Prop}(I:Inv X pins σ H s)(hN:X.N.Nodup)(hi:X.N[i]?=some x)(hx:Loc X.env.scope x)(r:RelV v u)
  (h:∀s',Inv X pins (σ.set i (some v)) H s'->Q () s') (hf:X.fn x=true\/X.env.scope.names.lookup x=some .local:=by first|exact .inl rfl|exact .inr rfl|assumption):wpAny M A (storeName X.env x u) Q E s:=
 iA I hN hi hx r (fun s' I' _=>h s' I') hf
theorem Inv.call'{s':Shared}{ch:List Addr}(I:Inv X pins σ H s)(ho:s'.os=s.os)(u:Un (frs X.stack) ch H H' s.heap s'.heap)(hok:HOk X.prog X.w H' s'.heap)(hg:AllBare s'.gens)
  (hch:∀b∈ch,(b∈X.ex\/X.s₀.heap.objs.size<=b)/\b≠X.env.locals/\(∀x c,X.env.cells.lookup x=some c->c≠b)/\∀p∈X.pn++pins,p.1≠b):Inv X pins σ H' s':=by
 obtain⟨h',g',d',t',o'⟩:=s';have e:o'=s.os:=ho;subst e;exact I.call (g':=g') (t':=t') (d':=d') u hok hg hch
end
noncomputable abbrev XK:=Value->Option Addr->Hp->Prop
noncomputable abbrev St:=List (Option V)
noncomputable abbrev VK:=V->Hp->Prop
noncomputable abbrev TE:=St->Hp->VK->Prop
noncomputable abbrev TT:=St->Hp->(Bool->Hp->Prop)->Prop
noncomputable abbrev TA:=St->Hp->(List V->Hp->Prop)->Prop
structure Ends where
 nx:St->Hp->Prop
 rt:VK
 bk:St->Hp->Prop:=fun _ _=>False
 ct:St->Hp->Prop:=fun _ _=>False
noncomputable abbrev TS:=Ends->St->Hp->Prop
def EP(X:Cx)(pins:List (Addr×Obj))(σ:St)(Q:VK)(u:Value)(s':Shared):Prop:=∃v H',Inv X pins σ H' s'/\RelV v u/\Q v H'
def TP(X:Cx)(pins:List (Addr×Obj))(σ:St)(Q:Bool->Hp->Prop)(b:Bool)(s':Shared):Prop:=∃H',Inv X pins σ H' s'/\Q b H'
def AP(X:Cx)(pins:List (Addr×Obj))(σ:St)(Q:List V->Hp->Prop)(us:List Value)(s':Shared):Prop:=∃vs H',Inv X pins σ H' s'/\Vals vs us/\Q vs H'
def SP(X:Cx)(pins:List (Addr×Obj))(D:Ends)(f:Flow)(s':Shared):Prop:=
 match f with
 | .next=>∃σ' H',Inv X pins σ' H' s'/\D.nx σ' H'
 | .brk=>∃σ' H',Inv X pins σ' H' s'/\D.bk σ' H'
 | .cont=>∃σ' H',Inv X pins σ' H' s'/\D.ct σ' H'
 | .ret u=>∃v σ' H',Inv X pins σ' H' s'/\RelV v u/\D.rt v H'
def PE(X:Cx)(e:Expr)(t:TE):Prop:=
 ∀(pins:List (Addr×Obj))(s:Shared)(σ:St)(H:Hp)(Q:VK),Inv X pins σ H s->t σ H Q->wpAny (model X.prog X.w) X.A (eval e X.env) (EP X pins σ Q) X.xe s
def PT(X:Cx)(e:Expr)(t:TT):Prop:=
 ∀(pins:List (Addr×Obj))(s:Shared)(σ:St)(H:Hp)(Q:Bool->Hp->Prop),Inv X pins σ H s->t σ H Q->wpAny (model X.prog X.w) X.A (isTrue e X.env (eval e X.env)) (TP X pins σ Q) X.xe s
def PW(X:Cx)(e:Expr)(t:TT):Prop:=
 ∀(whole:Sem Value)(pins:List (Addr×Obj))(s:Shared)(σ:St)(H:Hp)(Q:Bool->Hp->Prop),Inv X pins σ H s->t σ H Q->wpAny (model X.prog X.w) X.A (isTrue e X.env whole) (TP X pins σ Q) X.xe s
theorem PW.pt{X:Cx}{e:Expr}{t:TT}(h:PW X e t):PT X e t:=h _
def PA(X:Cx)(es:List Expr)(t:TA):Prop:=
 ∀(pos:Pos)(pins:List (Addr×Obj))(s:Shared)(σ:St)(H:Hp)(Q:List V->Hp->Prop),Inv X pins σ H s->t σ H Q->wpAny (model X.prog X.w) X.A (spliced (backTo pos (starEach es X.env))) (AP X pins σ Q) X.xe s
def PS(X:Cx)(st:Stmt)(t:TS):Prop:=
 ∀(pins:List (Addr×Obj))(s:Shared)(σ:St)(H:Hp)(D:Ends),Inv X pins σ H s->t D σ H->wpAny (model X.prog X.w) X.A (exec st X.env) (SP X pins D) X.xe s
def PSs(X:Cx)(st:List Stmt)(t:TS):Prop:=
 ∀(pins:List (Addr×Obj))(s:Shared)(σ:St)(H:Hp)(D:Ends),Inv X pins σ H s->t D σ H->wpAny (model X.prog X.w) X.A (execs st X.env) (SP X pins D) X.xe s
theorem thn{α:Type}{t:Sem α}{Q Q':α->Shared->Prop}{M:Model}{A:Around}{E:Value->Shared->Prop}{s:Shared}(h:wpAny M A t Q E s)(hQ:∀a s,Q a s->Q' a s):wpAny M A t Q' E s:=vD h hQ fun _ _ x=>x
section
variable{X:Cx}
def si(i:Nat):TE:=fun σ H Q=>∃v,σ[i]?=some (some v)/\Q v H
def tC(v:V):TE:=fun _ H Q=>Q v H
theorem rm{i:Nat}{x:Str}{pos:Pos}(hN:X.N[i]?=some x)(hv:Vis X.env.scope x)(hd:(x==("__debug__":Str))=false:=by decide)(hcd:(x==("__classdict__":Str))=false:=by decide):PE X (.Name x pos) (si i):=by
 intro pins s σ H Q I h;obtain⟨v,e,h⟩:=h;obtain⟨m,hn,hl⟩:=I.loc;obtain⟨u,r,l⟩:=hl i x v hN e hv;have fin:EP X pins σ Q u s:=⟨v,H,I,r,h⟩;rcases l with⟨hk,hm⟩|⟨hk,c,hc,hcell⟩
 ·exact wpAny_Name (wpAny_loadName_local I.ok.kind hk hn hm fin) hd
 ·rcases hk with hk|hk
  ·exact wpAny_Name (wpAny_loadName_cell I.ok.kind hk hc hcell fin) hd
  ·exact wpAny_Name (wpAny_loadName_free I.ok.kind hk hc hcell fin hcd) hd
theorem ab{i j pos}:PE X (.Constant (.int i) j pos) (tC (.int i)):=fun _ _ _ H _ I h=>wpAny_Constant_int ⟨.int i,H,I.tok _,⟨_,rfl⟩,h⟩
theorem cI{b j pos}:PE X (.Constant (.bool b) j pos) (tC (.bl b)):=fun _ _ _ H _ I h=>Constant_bool ⟨.bl b,H,I,rfl,h⟩
def Gl(X:Cx)(x:Str):Prop:=X.env.kindOf x=some .globalImplicit
theorem qh{E:Value->Shared->Prop}{pins:List (Addr×Obj)}{s:Shared}{σ:St}{H:Hp}{x:Str}{u:Value}{pos:Pos}{Q:Value->Shared->Prop}(I:Inv X pins σ H s)(hg:Gl X x)(hm:X.mg x=some u)(h:Q u s)
  (hd:(x==("__debug__":Str))=false:=by decide):wpAny (model X.prog X.w) X.A (eval (.Name x pos) X.env) Q E s:=
 Calls.Name_function_global I.ok.kind hg (Calls.loadGlobal_global (by rw[I.ok.glob];exact I.mod.glob.keeps I.bk) hm h) hd
theorem gY{E:Value->Shared->Prop}{pins:List (Addr×Obj)}{s:Shared}{σ:St}{H:Hp}{x:Str}{u:Value}{pos:Pos}{Q:Value->Shared->Prop}(I:Inv X pins σ H s)(hg:Gl X x)(hm:X.mg x=none)(hv:bootBuiltins x=some u)(h:Q u s)
  (hn:x≠"__name__":=by decide) (hd:(x==("__debug__":Str))=false:=by decide):wpAny (model X.prog X.w) X.A (eval (.Name x pos) X.env) Q E s:=by
 obtain⟨mb,h1,h2⟩:=I.mod.blt;exact Calls.Name_function_global I.ok.kind hg (Calls.loadGlobal_builtin (by rw[I.ok.glob];exact I.mod.glob.keeps I.bk) hm (by rw[I.ok.blt];exact h1.keeps I.bk) ((h2 x hn).trans hv) h) hd
theorem dH{x:Str}{v:V}{u:Value}{pos:Pos}(hg:Gl X x)(hm:X.mg x=none)(hv:bootBuiltins x=some u)(r:RelV v u)(hn:x≠"__name__":=by decide)(hd:(x==("__debug__":Str))=false:=by decide):PE X (.Name x pos) (tC v):=
 fun _ _ _ H _ I h=>gY I hg hm hv ⟨v,H,I,r,h⟩ hn hd
variable{a b:Expr}{ta tb:TE}{pos:Pos}
def PC(X:Cx)(op:CmpOp)(a b:Expr)(t:TE):Prop:=
 ∀(pins:List (Addr×Obj))(s:Shared)(σ:St)(H:Hp)(Q:VK),Inv X pins σ H s->t σ H Q->
  wpAny (model X.prog X.w) X.A (eval a X.env) (fun v s₁=>wpAny (model X.prog X.w) X.A (eval b X.env) (fun u s₂=>wpAny (model X.prog X.w) X.A (compareOp op v u) (EP X pins σ Q) X.xe s₂) X.xe s₁) X.xe s
def tB(t:TE):TT:=fun σ H Q=>t σ H fun x H1=>∃c,x=.bl c/\Q c H1
theorem i9{op:CmpOp}{t:TE}(h:PC X op a b t)(h1:behindInMarks op b=false:=by first|exact nobehind _ (by decide) (by decide)|rfl):PT X (.Compare a [op] [b] pos) (tB t):=by intro pins s σ H Q I hw;refine wpAny_isTrue_Compare1 (thn (h pins s σ H _ I hw) fun v s1 h1=>thn h1 fun u s2 h2=>thn h2 fun c s3 hPz=>?_) h1;obtain⟨x,H1,I1,r1,q1⟩:=hPz;obtain⟨d,rfl,q⟩:=q1;cases r1;exact vP ⟨H1,I1,q⟩
theorem bj{e:Expr}{t:TE}(h:PE X e t)(he:∀whole,isTrue e X.env whole=(do let v <-whole;standAt e.pos;holding [v] (truthy v)):=by intro _;rfl):PT X e (tB t):=by intro pins s σ H Q I hw;refine isTrue_plain (thn (h pins s σ H _ I hw) fun v s1 hPz=>?_) (he _);obtain⟨x,H1,I1,r1,q1⟩:=hPz;obtain⟨d,rfl,q⟩:=q1;cases r1;exact vP ⟨H1,I1,q⟩
variable{tA tB':TT}{rest:List Expr}
def tW(t u:TT):TT:=fun σ H Q=>t σ H fun c H1=>if c=true then u σ H1 Q else Q false H1
def tOr(t u:TT):TT:=fun σ H Q=>t σ H fun c H1=>if c=true then Q true H1 else u σ H1 Q
def tQ(t:TT):TT:=fun σ H Q=>t σ H fun c H1=>Q (!c) H1
theorem pM(ha:PT X a tA):PW X (.BoolOp .And [a] pos) tA:=by
 intro wh pins s σ H Q I h;refine isTrue_and (thn (ha pins s σ H Q I h) fun c s1 e=>?_);cases c with
 |true=>exact isTrue_and_nil e
 |false=>exact e
theorem dZ(ha:PT X a tA):PW X (.BoolOp .Or [a] pos) tA:=by
 intro wh pins s σ H Q I h;refine isTrue_or (thn (ha pins s σ H Q I h) fun c s1 e=>?_);cases c with
 |false=>exact isTrue_or_nil e
 |true=>exact e
theorem rh(ha:PT X a tA)(hb:PW X (.BoolOp .And (b::rest) pos) tB'):PW X (.BoolOp .And (a::b::rest) pos) (tW tA tB'):=by
 intro wh pins s σ H Q I h;refine isTrue_and (thn (ha pins s σ H _ I h) fun c s1 hPz=>?_);obtain⟨H1,I1,q1⟩:=hPz;cases c with
 |true=>exact hb wh pins s1 σ H1 Q I1 q1
 |false=>exact⟨H1,I1,q1⟩
theorem d0(ha:PT X a tA)(hb:PW X (.BoolOp .Or (b::rest) pos) tB'):PW X (.BoolOp .Or (a::b::rest) pos) (tOr tA tB'):=by
 intro wh pins s σ H Q I h;refine isTrue_or (thn (ha pins s σ H _ I h) fun c s1 hPz=>?_);obtain⟨H1,I1,q1⟩:=hPz;cases c with
 |true=>exact⟨H1,I1,q1⟩
 |false=>exact hb wh pins s1 σ H1 Q I1 q1
theorem bD(ha:PT X a tA):PT X (.UnaryOp .Not a pos) (tQ tA):=by intro pins s σ H Q I h;exact isTrue_not (ha pins s σ H (fun c H1=>Q (!c) H1) I h)
def sE(ta tb:TE):TE:=fun σ H Q=>ta σ H fun x H1=>∃c,x=.bl c/\if c=true then tb σ H1 Q else Q (.bl false) H1
def tP(ta tb:TE):TE:=fun σ H Q=>ta σ H fun x H1=>∃c,x=.bl c/\if c=true then Q (.bl true) H1 else tb σ H1 Q
def su(ta:TE):TE:=fun σ H Q=>ta σ H fun x H1=>∃c,x=.bl c/\Q (.bl (!c)) H1
theorem eZ{op}{t:TE}(h:PE X a t):PE X (.BoolOp op [a] pos) t:=fun pins s σ H Q I hw=>BoolOp_one (h pins s σ H Q I hw)
theorem e7(ha:PE X a ta)(hb:PE X (.BoolOp .And (b::rest) pos) tb):PE X (.BoolOp .And (a::b::rest) pos) (sE ta tb):=by
 intro pins s σ H Q I h;refine BoolOp_and (thn (ha pins s σ H _ I h) fun v s1 hPz=>?_);obtain⟨x,H1,I1,r1,q1⟩:=hPz;obtain⟨c,rfl,q1⟩:=q1;cases r1;refine vP ?_;cases c with
 |true=>exact hb pins s1 σ H1 Q I1 q1
 |false=>exact⟨.bl false,H1,I1,rfl,q1⟩
theorem qJ(ha:PE X a ta)(hb:PE X (.BoolOp .Or (b::rest) pos) tb):PE X (.BoolOp .Or (a::b::rest) pos) (tP ta tb):=by
 intro pins s σ H Q I h;refine BoolOp_or (thn (ha pins s σ H _ I h) fun v s1 hPz=>?_);obtain⟨x,H1,I1,r1,q1⟩:=hPz;obtain⟨c,rfl,q1⟩:=q1;cases r1;refine vP ?_;cases c with
 |false=>exact hb pins s1 σ H1 Q I1 q1
 |true=>exact⟨.bl true,H1,I1,rfl,q1⟩
theorem ro(ha:PE X a ta):PE X (.UnaryOp .Not a pos) (su ta):=by intro pins s σ H Q I h;refine UnaryOp_ (thn (ha pins s σ H _ I h) fun v s1 hPz=>?_);obtain⟨x,H1,I1,r1,q1⟩:=hPz;obtain⟨c,rfl,q1⟩:=q1;cases r1;exact not_of (vP ⟨.bl (!c),H1,I1,rfl,q1⟩)
end
def SqL(K:Frag)(H:Hp)(a:Addr)(xs:List V):Prop:=
 Rd H a (.lst xs)\/
  ∃(o:Obj)(its:Array Value)(n:Nat),K.lookup a=some o/\o.cls=.type "list"/\o.dict=none/\o.data=.seq its n/\its.size<=sizeLine/\Vals xs its.toList
def SqT(K:Frag)(H:Hp)(a:Addr)(xs:List V):Prop:=
 Rd H a (.tup xs)\/
  ∃(o:Obj)(its:Array Value)(n:Nat),K.lookup a=some o/\o.cls=.type "tuple"/\o.data=.seq its n/\its.size<=sizeLine/\Vals xs its.toList
noncomputable def ub:Value->Option V
 | .none=>some .non
 | .bool b=>some (.bl b)
 | .int i _=>some (.int i)
 | .str x _=>some (.str x)
 | .bytes b _=>some (.byt b)
 | .float b _=>some (.flt b)
 | .ref a=>some (.ref a)
 | .type n=>some (.ty n)
 |_=>none
theorem RelV.abs{x:V}{u:Value}(r:RelV x u):ub u=some x:=by
 cases x with
 |non=>cases r;rfl
 |bl _=>cases r;rfl
 |int _=>obtain⟨t,rfl⟩:=r;rfl
 |str _=>obtain⟨t,rfl⟩:=r;rfl
 |byt _=>obtain⟨t,rfl⟩:=r;rfl
 |flt _=>obtain⟨t,rfl⟩:=r;rfl
 |ref _=>cases r;rfl
 |ty _=>cases r;rfl
theorem RelV.inj{x y:V}{u:Value}(r:RelV x u)(q:RelV y u):x=y:=vJ (r.abs.symm.trans q.abs)
theorem Vals.inj:∀{xs ys:List V}{us:List Value},Vals xs us->Vals ys us->xs=ys
 |_,_,_,.nil,.nil=>rfl
 |_,_,_,.cons r t,.cons r' t'=>by rw[r.inj r',Vals.inj t t']
section
variable{X:Cx}{pins:List (Addr×Obj)}{σ:St}{H:Hp}{s:Shared}{a:Addr}{xs ys:List V}
theorem SqL.of{K:Frag}(h:H a=some (.lst xs)):SqL K H a xs:=.inl (.inl h)
theorem SqT.of{K:Frag}(h:H a=some (.tup xs)):SqT K H a xs:=.inl (.inl h)
theorem Inv.list(I:Inv X pins σ H s)(h:SqL X.K H a xs):∃its:List Value,Vals xs its/\PlainL s.heap a its.toArray/\xs.length<=sizeLine:=by
 rcases h with h|⟨o,its,n,hk,hc,hd,hs,hz,r⟩
 ·obtain⟨z,its,n,r,e⟩:=h.ok I.hok;exact⟨its,r,⟨_,n,e,rfl,rfl,rfl⟩,z⟩
 ·refine⟨its.toList,r,⟨o,n,I.kIn a o hk,hc,hd,by simpa using hs⟩,?_⟩;have e:=r.length;simp only[uu]at e;omega
theorem Inv.tuple(I:Inv X pins σ H s)(h:SqT X.K H a xs):∃its:List Value,Vals xs its/\IsTup s.heap a its.toArray/\xs.length<=sizeLine:=by
 rcases h with h|⟨o,its,n,hk,hc,hs,hz,r⟩
 ·obtain⟨z,its,r,p⟩:=h.ok I.hok;exact⟨its,r,p,z⟩
 ·refine⟨its.toList,r,⟨o,I.kIn a o hk,hc,n,by simpa using hs⟩,?_⟩;have e:=r.length;simp only[uu]at e;omega
theorem Inv.list_inj(I:Inv X pins σ H s)(h:SqL X.K H a xs)(h':SqL X.K H a ys):xs=ys:=by
 obtain⟨its,r,⟨o,n,e,_,_,d⟩,_⟩:=I.list h;obtain⟨its',r',⟨o',n',e',_,_,d'⟩,_⟩:=I.list h';rw[e]at e';cases e';rw[d]at d';injection d' with d1 _;have:its=its':=by simpa using congrArg Array.toList d1
 subst this;exact r.inj r'
theorem Inv.tuple_inj(I:Inv X pins σ H s)(h:SqT X.K H a xs)(h':SqT X.K H a ys):xs=ys:=by
 obtain⟨its,r,⟨o,e,_,n,d⟩,_⟩:=I.tuple h;obtain⟨its',r',⟨o',e',_,n',d'⟩,_⟩:=I.tuple h';rw[e]at e';cases e';rw[d]at d';injection d' with d1 _;have:its=its':=by simpa using congrArg Array.toList d1
 subst this;exact r.inj r'
end
noncomputable abbrev Cx.wish(X:Cx)(E:Value->Shared->Prop):Cx:={X with xe:=E}
noncomputable abbrev Cx.nox(X:Cx):Cx:=X.wish fun _ _=>False
theorem Cx.Ok.wish{X:Cx}(ok:X.Ok)(E:Value->Shared->Prop):(X.wish E).Ok:=
 ⟨ok.mod,ok.kind,ok.glob,ok.blt,ok.above,ok.inj,ok.has,ok.cab,ok.hd,ok.frames,ok.stk,ok.exf,ok.bs,ok.bsz,ok.noex,ok.exfs,ok.funs,ok.frf⟩
theorem Cx.Ok.unwish{X:Cx}{E:Value->Shared->Prop}(ok:(X.wish E).Ok):X.Ok:=
 ⟨ok.mod,ok.kind,ok.glob,ok.blt,ok.above,ok.inj,ok.has,ok.cab,ok.hd,ok.frames,ok.stk,ok.exf,ok.bs,ok.bsz,ok.noex,ok.exfs,ok.funs,ok.frf⟩
section
variable{X:Cx}{pins:List (Addr×Obj)}{σ:St}{H:Hp}{s:Shared}{E:Value->Shared->Prop}
theorem Inv.wish(I:Inv X pins σ H s)(E:Value->Shared->Prop):Inv (X.wish E) pins σ H s:=⟨I.ok.wish E,I.os,I.bare,I.base,I.loc,I.cell,I.free,I.freeC,I.pin,I.hok,I.len⟩
theorem Inv.unwish(I:Inv (X.wish E) pins σ H s):Inv X pins σ H s:=⟨I.ok.unwish,I.os,I.bare,I.base,I.loc,I.cell,I.free,I.freeC,I.pin,I.hok,I.len⟩
theorem SP.unwish{D:Ends}{f:Flow}{s':Shared}(h:SP (X.wish E) pins D f s'):SP X pins D f s':=by
 cases f with
 |next=>obtain⟨σ',H',I,q⟩:=h;exact⟨σ',H',I.unwish,q⟩
 |brk=>obtain⟨σ',H',I,q⟩:=h;exact⟨σ',H',I.unwish,q⟩
 |cont=>obtain⟨σ',H',I,q⟩:=h;exact⟨σ',H',I.unwish,q⟩
 |ret u=>obtain⟨v,σ',H',I,r,q⟩:=h;exact⟨v,σ',H',I.unwish,r,q⟩
theorem PSs.nox{st:List Stmt}{t:TS}(h:PSs X.nox st t):PSs X st t:=fun pins s σ H D I hw=>vD (h pins s σ H D (I.wish _) hw) (fun _ _ q=>q.unwish) fun _ _ z=>False.elim z
end
section
variable{X:Cx}{st:Stmt}{rest:List Stmt}{t u:TS}{e:Expr}{te:TE}{pos:Pos}
def sv:TS:=fun D σ H=>D.nx σ H
def tN(t u:TS):TS:=fun D σ H=>t {D with nx:=u D} σ H
theorem aL:PSs X [] sv:=fun _ _ σ H _ I h=>wpAny_execs_nil ⟨σ,H,I,h⟩
theorem ag(h1:PS X st t)(h2:PSs X rest u):PSs X (st::rest) (tN t u):=by
 intro pins s σ H D I h;refine wpAny_execs_cons (thn (h1 pins s σ H {D with nx:=u D} I h) fun f s1 q=>?_);cases f with
 |next=>obtain⟨σ',H',I',q⟩:=q;exact h2 pins s1 σ' H' D I' q
 |ret v=>exact q
 |brk=>exact q
 |cont=>exact q
theorem ai(h1:PS X st t):PSs X [st] t:=by
 intro pins s σ H D I h;refine wpAny_execs_cons (thn (h1 pins s σ H D I h) fun f s1 q=>?_);cases f with
 |next=>exact wpAny_execs_nil q
 |ret v=>exact q
 |brk=>exact q
 |cont=>exact q
theorem Inv.quiet{pins:List (Addr×Obj)}{σ:St}{H:Hp}{s:Shared}(I:Inv X pins σ H s):interactive X.env=false:=by simp[interactive,I.ok.kind]
def sy(te:TE):TS:=fun D σ H=>te σ H fun _ H1=>D.nx σ H1
theorem dG(he:PE X e te)(hs:swapsWith e none pos.line X.env=pure false:=by rfl):PS X (.Expr e pos) (sy te):=by intro pins s σ H D I h;exact wpAny_Expr_any (thn (he pins s σ H _ I h) fun v s1 hPz=>L2.ep3 hPz fun x H1 I1 r1 q1=>⟨σ,H1,I1,q1⟩) I.quiet hs
def tO(te:TE):TS:=fun D σ H=>te σ H D.rt
theorem aD(he:PE X e te):PS X (.Return (some e) pos) (tO te):=by intro pins s σ H D I h;exact wpAny_Return_some (thn (he pins s σ H _ I h) fun v s1 hPz=>L2.ep3 hPz fun x H1 I1 r1 q1=>⟨x,σ,H1,I1,r1,q1⟩)
def tT(c:TT)(t u:TS):TS:=fun D σ H=>c σ H fun b H1=>if b=true then t D σ H1 else u D σ H1
theorem bh{c:Expr}{a b:List Stmt}{tc:TT}(hc:PT X c tc)(ha:PSs X a t)(hb:PSs X b u):PS X (.If c a b pos) (tT tc t u):=by
 intro pins s σ H D I h;refine wpAny_If (thn (hc pins s σ H _ I h) fun d s1 hPz=>?_);obtain⟨H1,I1,q1⟩:=hPz;cases d with
 |true=>exact ha pins s1 σ H1 D I1 q1
 |false=>exact hb pins s1 σ H1 D I1 q1
end
noncomputable abbrev TG:=V->St->Hp->(St->Hp->Prop)->Prop
noncomputable abbrev TGs:=List V->St->Hp->(St->Hp->Prop)->Prop
def PG(X:Cx)(target:Expr)(t:TG):Prop:=
 ∀(pins:List (Addr×Obj))(s:Shared)(σ:St)(H:Hp)(v:V)(u:Value)(Q:St->Hp->Prop),Inv X pins σ H s->RelV v u->t v σ H Q->
  wpAny (model X.prog X.w) X.A (assign target X.env u) (fun _ s'=>∃σ' H',Inv X pins σ' H' s'/\Q σ' H') X.xe s
def PGs(X:Cx)(ts:List Expr)(t:TGs):Prop:=
 ∀(pins:List (Addr×Obj))(s:Shared)(σ:St)(H:Hp)(vs:List V)(us:List Value)(Q:St->Hp->Prop),Inv X pins σ H s->Vals vs us->t vs σ H Q->
  wpAny (model X.prog X.w) X.A (assignInOrder ((assignEach ts X.env).map (·.2)) us) (fun _ s'=>∃σ' H',Inv X pins σ' H' s'/\Q σ' H') X.xe s
section
variable{X:Cx}{pos:Pos}
def eY(i:Nat):TG:=fun v σ H Q=>Q (σ.set i (some v)) H
theorem aR{i:Nat}{x:Str}(hN:X.N.Nodup)(hi:X.N[i]?=some x)(hx:Loc X.env.scope x)(hf:X.fn x=true\/X.env.scope.names.lookup x=some .local:=by first|exact .inl rfl|exact .inr rfl|assumption):PG X (.Name x pos) (eY i):=by intro pins s σ H v u Q I r h;exact wpAny_assign_Name (jM I hN hi hx r (fun s' I'=>⟨_,H,I',h⟩) hf)
def rS:TGs:=fun vs σ H Q=>vs=[]/\Q σ H
def ku(t:TG)(u:TGs):TGs:=fun vs σ H Q=>∃v r,vs=v::r/\t v σ H fun σ' H'=>u r σ' H' Q
theorem me:PGs X [] rS:=by intro pins s σ H vs us Q I r h;obtain⟨e,h⟩:=h;subst e;cases r;exact assignInOrder_nil ⟨σ,H,I,h⟩
theorem fH{e:Expr}{es:List Expr}{t:TG}{u:TGs}(h1:PG X e t)(h2:PGs X es u)
  (hs:(assignEach (e::es) X.env).map (·.2)=assign e X.env::(assignEach es X.env).map (·.2):=by rfl):PGs X (e::es) (ku t u):=by
 intro pins s σ H vs us Q I r h;obtain⟨v,vr,e1,h⟩:=h;subst e1;cases r with
 |cons r rr=>rw[hs];refine assignInOrder_cons (thn (h1 pins s σ H _ _ _ I r h) fun _ s1 hPz=>?_);obtain⟨σ1,H1,I1,q1⟩:=hPz;exact h2 pins s1 σ1 H1 _ _ Q I1 rr q1
def qt(K:Frag)(n:Nat)(t:TGs):TG:=fun v σ H Q=>∃a xs,v=.ref a/\SqT K H a xs/\xs.length=n/\t xs σ H Q
theorem nZ{es:List Expr}{k:Nat}{t:TGs}{n:Nat}(hc:X.calm=true)(h:PGs X es t)
  (hn:(assignEach es X.env).length=n:=by rfl) (hst:(assignEach es X.env).findIdx? (·.1)=none:=by rfl):PG X (.Tuple es k pos) (qt X.K n t):=by
 intro pins s σ H v u Q I r hw;obtain⟨a,xs,e1,hq,hl,hw⟩:=hw;subst e1;cases r;obtain⟨its,rv,ht,hz⟩:=I.tuple hq;refine assign_Tuple_tuple (I.ok.hd hc) ht (by simp[hn,<-hl,rv.length]) hst fun h' hx=>?_;have I1:Inv X pins σ H {s with heap:=h'}:=I.kept (t':=s.toks) fun b o e=>hx b o (uX (uw e)) e;exact h pins _ σ H xs _ Q I1 (by simpa using rv) hw
def sD(te:TE)(g:TG):TS:=fun D σ H=>te σ H fun x H1=>g x σ H1 D.nx
theorem aq{i:Nat}{x:Str}{e:Expr}{te:TE}{pos':Pos}(hN:X.N.Nodup)(hi:X.N[i]?=some x)(hx:Loc X.env.scope x)(he:PE X e te)(hs:swapsWith e (some (.Name x pos')) pos.line X.env=pure false:=by rfl)(hf:X.fn x=true\/X.env.scope.names.lookup x=some .local:=by first|exact .inl rfl|exact .inr rfl|assumption):
  PS X (.Assign [.Name x pos'] e pos) (sD te (eY i)):=by
 intro pins s σ H D I h;refine wpAny_Assign_Name (thn (he pins s σ H _ I h) fun v s1 hPz=>?_) hs;obtain⟨y,H1,I1,r1,q1⟩:=hPz;exact jM I1 hN hi hx r1 (fun s2 I2=>⟨_,H1,I2,q1⟩) hf
def qS(c:TT)(tb:TS):TS:=fun D σ H=>∃W:Nat->St->Hp->Prop,(∃m,W m σ H)/\∀m σ H,W m σ H->
 c σ H fun b H1=>if b=true then ∃N:St->Hp->Prop,(∀σ' H',N σ' H'->∃m',m'<m/\W m' σ' H')/\tb {D with nx:=N,ct:=N,bk:=D.nx} σ H1 else D.nx σ H1
theorem jX{c:Expr}{body:List Stmt}{tc:TT}{tb:TS}(hp:PassesOwn (model X.prog X.w) X.A X.env X.xe)(hc:PT X c tc)(hb:PSs X body tb):PS X (.While c body [] pos) (qS tc tb):=by
 intro pins s σ H D I h;obtain⟨W,⟨m0,w0⟩,turn⟩:=h;refine wpAny_While (codeAny_whileLoop (fun n s'=>∃σ' H',Inv X pins σ' H' s'/\W n σ' H') ?_ m0 ⟨σ,H,I,w0⟩);rintro n s1 ⟨σ1,H1,I1,w1⟩;refine wpAny_passesOwn hp (thn (hc pins s1 σ1 H1 _ I1 (turn n σ1 H1 w1)) fun b s2 hPz=>?_);obtain⟨H2,I2,q2⟩:=hPz;cases b with
 |true=>
  obtain⟨N,hN,q2⟩:=q2;rw[um rfl];refine wpAny_passesOwn hp (thn (hb pins s2 σ1 H2 _ I2 q2) fun f s3 q3=>?_);cases f with
  |next=>obtain⟨σ3,H3,I3,n3⟩:=q3;obtain⟨m',hm,w3⟩:=hN σ3 H3 n3;exact⟨m',hm,σ3,H3,I3,w3⟩
  |cont=>obtain⟨σ3,H3,I3,n3⟩:=q3;obtain⟨m',hm,w3⟩:=hN σ3 H3 n3;exact⟨m',hm,σ3,H3,I3,w3⟩
  |brk=>exact q3
  |ret v=>exact q3
 |false=>rw[uo uz];exact wpAny_execs_nil ⟨σ1,H2,I2,q2⟩
end
structure It where
 go:Nat->Hp->Prop
 yld:Nat->Hp->V->Hp->Prop
 stop:Nat->Hp->Prop
def f9(X:Cx)(pins:List (Addr×Obj))(H:Hp)(b:Addr):Prop:=
 H b=none/\b≠X.env.locals/\b∉X.fs/\(b∈X.ex\/X.s₀.heap.objs.size<=b)/\(∀x c,X.env.cells.lookup x=some c->c≠b)/\∀p∈X.pn++pins,p.1≠b
theorem Inv.fpOk{X:Cx}{pins:List (Addr×Obj)}{σ:St}{H H':Hp}{s:Shared}{b:Addr}(I:Inv X pins σ H s)(hb:s.heap.objs.size<=b)(hn:H' b=none):f9 X pins H' b:=by
 refine⟨hn,Nat.ne_of_gt (uI I.lt hb),I.nofs hb,.inr (vS I.sz hb),fun x c e z=>?_,fun p hp z=>?_⟩
 ·obtain⟨v,q⟩:=I.cell x c e;exact absurd (uI q.lt (by rw[z];exact hb)) (vR _)
 ·exact absurd (uI (uw (I.pin p hp).1) (by rw[z];exact hb)) (vR _)
structure Turn(P:Program)(w:World)(K:Frag)(tg:Expr)(J:It)(fp:List Addr)(it:Addr)(tn:Nat->Heap->Prop):Prop where
 mem:it∈fp
 obj:∀i h,tn i h->∀b∈fp,∃o,h.get? b=some o/\∀v,o.data≠ .cell v
 keep:∀i h h',tn i h->(∀b∈fp,∀o,h.get? b=some o->h'.get? b=some o)->tn i h'
 item:∀(X:Cx),X.prog=P->X.w=w->X.K=K->X.calm=true->∀(i:Nat)(pins:List (Addr×Obj))(s:Shared)(σ:St)(H:Hp)(E:Value->Shared->Prop),Inv X pins σ H s->(∀b∈fp,f9 X pins H b)->tn i s.heap->J.go i H->
  wpAny (model P w) X.A (pyNext (.ref it)) (fun r s1=>∃u,r=some u/\
   wpAny (model P w) X.A (letOwnedTupleGo tg (.ref it) u) (fun _ s2=>∃x H',Inv X pins σ H' s2/\RelV x u/\J.yld i H x H'/\tn (i+1) s2.heap/\∀b∈fp,H' b=none) E s1) E s
 done:∀(X:Cx),X.prog=P->X.w=w->X.K=K->X.calm=true->∀(i:Nat)(pins:List (Addr×Obj))(s:Shared)(σ:St)(H:Hp)(E:Value->Shared->Prop),Inv X pins σ H s->(∀b∈fp,f9 X pins H b)->tn i s.heap->J.stop i H->
  wpAny (model P w) X.A (pyNext (.ref it)) (fun r s1=>r=none/\Inv X pins σ H s1) E s
 self:∀(A:Around)(i:Nat)(s:Shared)(Q:Value->Shared->Prop)(E:Value->Shared->Prop),tn i s.heap->Q (.ref it) s->wpAny (model P w) A (pyIter (.ref it)) Q E s
noncomputable abbrev TI:=St->Hp->(It->Hp->Prop)->Prop
def PIE(X:Cx)(pins:List (Addr×Obj))(σ:St)(tg:Expr)(R:It->Hp->Prop)(itv:Value)(s2:Shared):Prop:=
 ∃(it:Addr)(fp:List Addr)(tn:Nat->Heap->Prop)(J:It)(H':Hp),itv=.ref it/\Inv X pins σ H' s2/\Turn X.prog X.w X.K tg J fp it tn/\tn 0 s2.heap/\(∀b∈fp,f9 X pins H' b)/\R J H'
def PI(X:Cx)(tg iter:Expr)(wi:TI):Prop:=
 ∀(pins:List (Addr×Obj))(s:Shared)(σ:St)(H:Hp)(R:It->Hp->Prop),Inv X pins σ H s->wi σ H R->
  wpAny (model X.prog X.w) X.A (eval iter X.env) (fun v s1=>wpAny (model X.prog X.w) X.A (pyIter v) (PIE X pins σ tg R) X.xe s1) X.xe s
theorem oK {M : Model} {A : Around} {E : Value → Shared → Prop} {s : Shared} {tg : Expr} {it : Addr} {u : Value} {o : Obj} {n : String} {vs : Array Value} {Q : Unit → Shared → Prop} (ho : s.heap.get? it = some o) (hc : o.cls = .type n) (hd : o.data = .fields vs)
    (hn : ["enumerate", "zip", "dict_itemiterator", "dict_reverseitemiterator", "odict_iterator", "itertools.zip_longest", "itertools.pairwise"].contains n = false) (hQ : Q () s) : wpAny M A (letOwnedTupleGo tg (.ref it) u) Q E s := by
  unfold letOwnedTupleGo
  cases tg <;> first
    | exact wpAny_pure hQ
    | (cases u <;> first
        | exact wpAny_pure hQ
        | (refine wpAny_bind (wpAny_load ho ?_)
           rw [hc, hd]
           show wpAny M A (if (["enumerate", "zip", "dict_itemiterator", "dict_reverseitemiterator", "odict_iterator", "itertools.zip_longest", "itertools.pairwise"].contains n && vs[0]? == some (rawInt _)) = true then _ else _) Q E s
           rw [if_neg (by intro h; rw [hn, Bool.false_and] at h; cases h)]
           exact wpAny_pure hQ))
noncomputable def Itl(K:Frag)(a:Addr):It:=
 ⟨fun i H=>∃xs x,SqL K H a xs/\xs[i]?=some x,fun i H x H'=>H'=H/\∀xs,SqL K H a xs->xs[i]?=some x,fun i H=>∃xs,SqL K H a xs/\xs.length<=i⟩
noncomputable def Itr(lo:Int)(n:Nat):It:=⟨fun i _=>i<n,fun i H x H'=>H'=H/\x=.int (lo+i),fun i _=>n<=i⟩
theorem mM{P:Program}{w:World}{K:Frag}{tg:Expr}(a it:Addr):Turn P w K tg (Itl K a) [it] it (fun i h=>h.IsListIter it a i) where
 mem:=by simp
 obj:=fun i h st b hb=>by
  have e:b=it:=by simpa using hb
  subst e;obtain⟨o,e,c,d⟩:=st;exact⟨o,e,fun v z=>by rw[d]at z;cases z⟩
 keep:=fun i h h' st k=>st.at fun o e=>k it (by simp) o e
 item:=by intro X hP hw hK hc i pins s σ H E I hf st hg;subst hP hw hK;obtain⟨xs,x,hq,hx⟩:=hg;obtain⟨its,rv,p,hz⟩:=I.list hq;obtain⟨u,hu,ru⟩:=rv.get hx;obtain⟨f0,f1,f2,f3,f4,f5⟩:=hf it (by simp);refine wpAny_pyNext_list_item st p.isList (x:=u) (by simpa using hu) fun h' st' sb=>?_;have I1:Inv X pins σ H {s with heap:=h'}:=I.turned (t':=s.toks) (fun b o hb e=>(sb.2 b hb).trans e) f0 f1 f3 f4 f5;obtain⟨o,e,c,d⟩:=id st';exact⟨u,rfl,oK (s:={s with heap:=h'}) e c d (by decide) ⟨x,H,I1,ru,⟨rfl,fun ys hy=>by rw[I.list_inj hy hq];exact hx⟩,st',fun b hb=>(hf b hb).1⟩⟩
 done:=by intro X hP hw hK hc i pins s σ H E I hf st hg;subst hP hw hK;obtain⟨xs,hq,hx⟩:=hg;obtain⟨its,rv,p,hz⟩:=I.list hq;obtain⟨f0,f1,f2,f3,f4,f5⟩:=hf it (by simp);have hl:=rv.length;exact wpAny_pyNext_list_end (I.ok.hd hc) st p.isList (by simp;omega) fun h' eb=>⟨rfl,I.turned (t':=s.toks) (fun b o hb e=>eb b o hb e) f0 f1 f3 f4 f5⟩
 self:=fun _ _ _ _ _ st h=>wpAny_pyIter_listiter st h
theorem kM{P:Program}{w:World}{K:Frag}{tg:Expr}(it:Addr)(lo:Int)(n:Nat):Turn P w K tg (Itr lo n) [it] it (fun i h=>IsRangeIter h it (lo+(i:Nat)*1) ((n:Int)-(i:Nat)) 1) where
 mem:=by simp
 obj:=fun i h st b hb=>by
  have e:b=it:=by simpa using hb
  subst e
  exact⟨_,st,fun v z=>by
   have z':Data.fields _=Data.cell v:=z
   cases z'⟩
 keep:=fun i h h' st k=>k it (by simp) _ st
 item:=by intro X hP hw hK hc i pins s σ H E I hf st hg;subst hP hw hK;obtain⟨f0,f1,f2,f3,f4,f5⟩:=hf it (by simp);have W:=Walks.range (prog:=X.prog) (w:=X.w) (I.ok.hd hc) it lo 1 n;refine W.item i s _ _ hg st fun v h' tk hv st' kk=>?_;obtain⟨t,rfl⟩:=hv;have I1:Inv X pins σ H {s with heap:=h',toks:=tk}:=I.turned (fun b o hb e=>kk b o (by simpa using hb) e) f0 f1 f3 f4 f5;refine⟨_,rfl,oK (s:={s with heap:=h',toks:=tk}) (n:="range_iterator") st' rfl rfl (by decide) ⟨.int (lo+i),H,I1,⟨t,?_⟩,⟨rfl,rfl⟩,st',fun b hb=>(hf b hb).1⟩⟩;rw[Int.mul_one]
 done:=by intro X hP hw hK hc i pins s σ H E I hf st hg;subst hP hw hK;obtain⟨f0,f1,f2,f3,f4,f5⟩:=hf it (by simp);exact wpAny_pyNext_range_end (I.ok.hd hc) st (by have:n<=i:=hg;omega) fun h' eb=>⟨rfl,I.turned (t':=s.toks) (fun b o hb e=>eb b o hb e) f0 f1 f3 f4 f5⟩
 self:=fun _ _ _ _ _ st h=>wpAny_pyIter_rangeiter st h
section
variable{X:Cx}{tg:Expr}
def tw(K:Frag)(tl:TE):TI:=fun σ H R=>tl σ H fun x H1=>∃a,x=.ref a/\(∃xs,SqL K H1 a xs)/\R (Itl K a) H1
theorem cN{l:Expr}{tl:TE}(hl:PE X l tl):PI X tg l (tw X.K tl):=by
 intro pins s σ H R I h;refine thn (hl pins s σ H _ I h) fun v s1 hPz=>?_;obtain⟨x,H1,I1,r1,q1⟩:=hPz;obtain⟨a,e,⟨xs,hq⟩,q⟩:=q1;subst e;cases r1;obtain⟨its,rv,p,hz⟩:=I1.list hq;refine wpAny_pyIter_list p.isList ?_;refine⟨s1.heap.objs.size,[s1.heap.objs.size],_,_,H1,rfl,I1.kept (t':=s1.toks) fun b o e=>uh _ e,mM a _,⟨_,uK _ rfl,rfl,rfl⟩,fun b hb=>?_,q⟩;have e:b=s1.heap.objs.size:=by simpa using hb
 subst e;exact I1.fpOk (uA _) (I1.hok.fresh (uA _))
theorem nR{pins:List (Addr×Obj)}{σ:St}{H:Hp}{s:Shared}{R:It->Hp->Prop}{E:Value->Shared->Prop}{lo hi:Int}{t u v:Tok}{tk:Nat}(I:Inv X pins σ H s)(h1: -(2^62)<=lo)(h2:lo<2^62)(h3: -(2^62)<=hi)(h4:hi<2^62)
  (q:R (Itr lo (hi-lo).toNat) H):wpAny (model X.prog X.w) X.A (pyIter (.ref s.heap.objs.size)) (PIE X pins σ tg R) E {s with heap:=s.heap.push {cls:=.type "range",data:=.fields #[.int lo t,.int hi u,.int 1 v]},toks:=tk}:=by
 refine wpAny_pyIter_range (IsRange.new ..) (small_one h1 h2 h3 h4) ?_;have I1:Inv X pins σ H {s with heap:=s.heap.push {cls:=.type "range",data:=.fields #[.int lo t,.int hi u,.int 1 v]},toks:=tk}:=I.kept fun b o e=>uh _ e
 refine⟨(s.heap.push {cls:=.type "range",data:=.fields #[.int lo t,.int hi u,.int 1 v]}).objs.size,[(s.heap.push {cls:=.type "range",data:=.fields #[.int lo t,.int hi u,.int 1 v]}).objs.size],_,_,H,rfl,
  I1.kept (t':=tk) fun b o e=>uh _ e,kM _ lo (hi-lo).toNat,?_,fun b hb=>?_,q⟩
 ·have e1:lo+((0:Nat):Int)*1=lo:=by simp
  have e2:(((hi-lo).toNat:Nat):Int)-((0:Nat):Int)=Builtin.Range.rangeSize lo hi 1:=by rw[rangeSize_one];split<;>omega
  show IsRangeIter _ _ (lo+((0:Nat):Int)*1) ((((hi-lo).toNat:Nat):Int)-((0:Nat):Int)) 1;rw[e1,e2];exact uK _ rfl
 ·have e:b=(s.heap.push {cls:=.type "range",data:=.fields #[.int lo t,.int hi u,.int 1 v]}).objs.size:=by simpa using hb
  subst e;exact I1.fpOk (uA _) (I1.hok.fresh (uA _))
def tu(ta:TA):TI:=fun σ H R=>ta σ H fun vs H1=>∃j:Int,vs=[.int j]/\ -(2^62)<=j/\j<2^62/\R (Itr 0 j.toNat) H1
theorem bN{a:Expr}{ta:TA}{p pos:Pos}(hg:Gl X "range")(hm:X.mg "range"=none)(ha:PA X [a] ta)(hs:starEach [a] X.env=[(false,eval a X.env)]:=by rfl):PI X tg (.Call (.Name "range" p) [a] [] pos) (tu ta):=by
 intro pins s σ H R I h;refine Call_ (gY I hg hm boot_range (PyProof.Rows.callWith_type1 (thn (ha pos pins s σ H _ I h) fun us s1 hPz=>?_) hs rfl));obtain⟨vs,H1,I1,r1,q1⟩:=hPz;obtain⟨j,e,q1,q2,q⟩:=q1;subst e;cases r1 with
 |cons r rr=>cases rr;obtain⟨t,rfl⟩:=r;exact call_range_1 (nR I1 (by omega) (by omega) q1 q2 (by simpa using q))
def tU(wi:TI)(g:TG)(tb:TS):TS:=fun D σ H=>wi σ H fun J H1=>∃W:Nat->Nat->St->Hp->Prop,(∃m,W 0 m σ H1)/\∀i m σ H,W i m σ H->
 (J.stop i H/\D.nx σ H)\/(J.go i H/\∃N:St->Hp->Prop,(∀σ' H',N σ' H'->∃m',m'<m/\W (i+1) m' σ' H')/\∀x H',J.yld i H x H'->g x σ H' fun σ2 H2=>tb {D with nx:=N,ct:=N,bk:=D.nx} σ2 H2)
noncomputable def gN(fp:List Addr)(h:Heap):List (Addr×Obj):=fp.filterMap fun b=>(h.get? b).map fun o=>(b,o)
theorem dI{fp:List Addr}{h:Heap}{b:Addr}{o:Obj}(hb:b∈fp)(e:h.get? b=some o):(b,o)∈gN fp h:=List.mem_filterMap.mpr ⟨b,hb,by rw[e];rfl⟩
theorem m8{fp:List Addr}{h:Heap}{p:Addr×Obj}(hp:p∈gN fp h):p.1∈fp/\h.get? p.1=some p.2:=by
 obtain⟨b,hb,e⟩:=List.mem_filterMap.mp hp;cases q:h.get? b with
 |none=>rw[q]at e;cases e
 |some o=>rw[q]at e;have e':(b,o)=p:=vJ e;subst e';exact⟨hb,q⟩
theorem Inv.pinned{pins:List (Addr×Obj)}{σ:St}{H:Hp}{s:Shared}{fp:List Addr}(I:Inv X pins σ H s)(hf:∀b∈fp,f9 X pins H b)(ho:∀b∈fp,∃o,s.heap.get? b=some o/\∀v,o.data≠ .cell v):Inv X (pins++gN fp s.heap) σ H s:=
 I.pins_of fun p hp=>(uB.mp hp).elim (fun z=>I.pin p (uT _ z)) fun z=>by obtain⟨hb,e⟩:=m8 z;obtain⟨f0,f1,f2,_⟩:=hf p.1 hb;obtain⟨o,e',d⟩:=ho p.1 hb;rw[e]at e';cases e';exact⟨e,f0,f1,f2,d⟩
theorem Inv.unpinned{pins pl:List (Addr×Obj)}{σ:St}{H:Hp}{s:Shared}(I:Inv X (pins++pl) σ H s):Inv X pins σ H s:=I.pins_of fun p hp=>I.pin p (uT _ (vL _ hp))
theorem cc{iter:Expr}{body:List Stmt}{wi:TI}{g:TG}{tb:TS}{pos:Pos}(hp:PassesOwn (model X.prog X.w) X.A X.env X.xe)(hc:X.calm=true)(hi:PI X tg iter wi)(hg:PG X tg g)(hb:PSs X body tb)
  (hs:∀x,foldedSetIterable iter X.env x=pure x:=by intro _;rfl):PS X (.For tg iter body [] pos) (tU wi g tb):=by
 intro pins s σ H D I h;refine wpAny_For (thn (hi pins s σ H _ I h) fun v s1 h1=>thn h1 fun itv s2 h2=>?_) hs;obtain⟨it,fp,tn,J,H2,e,I2,T,st2,f2,W,⟨m0,w0⟩,turn⟩:=h2;subst e;have stat:∀{H':Hp},(∀b∈fp,H' b=none)->∀b∈fp,f9 X pins H' b:=fun hn b hb=>⟨hn b hb,(f2 b hb).2⟩;refine codeAny_forLoop_any (fun n s'=>∃i σ' H',Inv X pins σ' H' s'/\tn i s'.heap/\(∀b∈fp,H' b=none)/\W i n σ' H') ?_ m0 ⟨0,σ,H2,I2,st2,fun b hb=>(f2 b hb).1,w0⟩;rintro n s3 ⟨i,σ3,H3,I3,st3,fr3,w3⟩;rcases turn i n σ3 H3 w3 with⟨stop,qn⟩|⟨go,N,hN,step⟩
 ·refine wpAny_passesOwn hp (thn (T.done X rfl rfl rfl hc i pins s3 σ3 H3 X.xe I3 (stat fr3) st3 stop) fun r s4 ⟨hr,I4⟩=>?_);subst hr;exact wpAny_execs_nil ⟨σ3,H3,I4,qn⟩
 ·refine wpAny_passesOwn hp (thn (T.item X rfl rfl rfl hc i pins s3 σ3 H3 X.xe I3 (stat fr3) st3 go) fun r s4 hPz=>?_);obtain⟨u,hr,h4⟩:=hPz;subst hr;refine wpAny_passesOwn hp (thn h4 fun _ s5 hPz=>?_);obtain⟨x,H5,I5,r5,y5,st5,fr5⟩:=hPz;have I5':=I5.pinned (stat fr5) (T.obj _ _ st5);refine wpAny_passesOwn hp (thn (hg _ s5 σ3 H5 x u _ I5' r5 (step x H5 y5)) fun _ s6 hPz=>?_);obtain⟨σ6,H6,I6,q6⟩:=hPz;refine wpAny_passesOwn hp (thn (hb _ s6 σ6 H6 _ I6 q6) fun f s7 q7=>?_);have again:∀{σ7:St}{H7:Hp},Inv X (pins++gN fp s5.heap) σ7 H7 s7->N σ7 H7->∃m,m<n/\∃i σ' H',Inv X pins σ' H' s7/\tn i s7.heap/\(∀b∈fp,H' b=none)/\W i m σ' H':=fun {σ7 H7} I7 n7=>by
   obtain⟨m',hm,w7⟩:=hN σ7 H7 n7;refine⟨m',hm,i+1,σ7,H7,I7.unpinned,T.keep _ _ _ st5 fun b hb o e=>(I7.pin (b,o) (uT _ (uT _ (dI hb e)))).1,fun b hb=>?_,w7⟩;obtain⟨o,e,d⟩:=T.obj _ _ st5 b hb;exact(I7.pin (b,o) (uT _ (uT _ (dI hb e)))).2.1
  cases f with
  |next=>obtain⟨σ7,H7,I7,n7⟩:=q7;exact again I7 n7
  |cont=>obtain⟨σ7,H7,I7,n7⟩:=q7;exact again I7 n7
  |brk=>obtain⟨σ7,H7,I7,q7⟩:=q7;exact⟨σ7,H7,I7.unpinned,q7⟩
  |ret v=>obtain⟨x7,σ7,H7,I7,r7,q7⟩:=q7;exact⟨x7,σ7,H7,I7.unpinned,r7,q7⟩
end
theorem cX{K:Frag}{a:Addr}{xs:List V}{g:TG}{tb:TS}{D:Ends}{σ:St}{H:Hp}(Pv:Nat->St->Hp->Prop)(h0:Pv 0 σ H)(hl:∀i σ H,i<=xs.length->Pv i σ H->SqL K H a xs)
  (hs:∀i x σ H,xs[i]?=some x->Pv i σ H->g x σ H fun σ2 H2=>tb {D with nx:=Pv (i+1),ct:=Pv (i+1),bk:=D.nx} σ2 H2) (hd:∀σ H,Pv xs.length σ H->D.nx σ H):
  ∃W:Nat->Nat->St->Hp->Prop,(∃m,W 0 m σ H)/\∀i m σ H,W i m σ H->
   ((Itl K a).stop i H/\D.nx σ H)\/((Itl K a).go i H/\∃N:St->Hp->Prop,(∀σ' H',N σ' H'->∃m',m'<m/\W (i+1) m' σ' H')/\∀x H',(Itl K a).yld i H x H'->g x σ H' fun σ2 H2=>tb {D with nx:=N,ct:=N,bk:=D.nx} σ2 H2):=by
 refine⟨fun i m σ H=>m=xs.length-i/\i<=xs.length/\Pv i σ H,⟨xs.length,by simp,vg _,h0⟩,?_⟩;rintro i m σ H ⟨rfl,hi,p⟩;have q:=hl i σ H hi p;by_cases hlt:i<xs.length
 ·refine .inr ⟨⟨xs,xs[i],q,by simp[hlt]⟩,Pv (i+1),fun σ' H' p'=>⟨xs.length-(i+1),by omega,rfl,hlt,p'⟩,fun x H' y=>?_⟩;obtain⟨e,y⟩:=y;subst e;exact hs i x σ _ (y xs q) p
 ·have e:i=xs.length:=by omega
  subst e;exact .inl ⟨⟨xs,q,uA _⟩,hd σ H p⟩
theorem cU{lo:Int}{n:Nat}{g:TG}{tb:TS}{D:Ends}{σ:St}{H:Hp}(Pv:Nat->St->Hp->Prop)(h0:Pv 0 σ H)
  (hs:∀i σ H,i<n->Pv i σ H->g (.int (lo+i)) σ H fun σ2 H2=>tb {D with nx:=Pv (i+1),ct:=Pv (i+1),bk:=D.nx} σ2 H2) (hd:∀σ H,Pv n σ H->D.nx σ H):
  ∃W:Nat->Nat->St->Hp->Prop,(∃m,W 0 m σ H)/\∀i m σ H,W i m σ H->
   ((Itr lo n).stop i H/\D.nx σ H)\/((Itr lo n).go i H/\∃N:St->Hp->Prop,(∀σ' H',N σ' H'->∃m',m'<m/\W (i+1) m' σ' H')/\∀x H',(Itr lo n).yld i H x H'->g x σ H' fun σ2 H2=>tb {D with nx:=N,ct:=N,bk:=D.nx} σ2 H2):=by
 refine⟨fun i m σ H=>m=n-i/\i<=n/\Pv i σ H,⟨n,by simp,vg _,h0⟩,?_⟩;rintro i m σ H ⟨rfl,hi,p⟩;by_cases hlt:i<n
 ·refine .inr ⟨hlt,Pv (i+1),fun σ' H' p'=>⟨n-(i+1),by omega,rfl,hlt,p'⟩,fun x H' y=>?_⟩;obtain⟨e,y⟩:=y;subst e y;exact hs i σ _ hlt p
 ·have e:i=n:=by omega
  subst e;exact .inl ⟨uA _,hd σ H p⟩
noncomputable abbrev R2:=V->V->Hp->VK->Prop
def OpR(X:Cx)(f:Value->Value->Sem Value)(r:R2):Prop:=
 ∀(pins:List (Addr×Obj))(s:Shared)(σ:St)(H:Hp)(x y:V)(v u:Value)(Q:VK),Inv X pins σ H s->RelV x v->RelV y u->r x y H Q->
  wpAny (model X.prog X.w) X.A (f v u) (EP X pins σ Q) X.xe s
def UnR(X:Cx)(f:Value->Sem Value)(r:V->Hp->VK->Prop):Prop:=
 ∀(pins:List (Addr×Obj))(s:Shared)(σ:St)(H:Hp)(x:V)(v:Value)(Q:VK),Inv X pins σ H s->RelV x v->r x H Q->
  wpAny (model X.prog X.w) X.A (f v) (EP X pins σ Q) X.xe s
def ef(X:Cx)(f:Value)(r:List V->Hp->VK->Prop):Prop:=
 ∀(pins:List (Addr×Obj))(s:Shared)(σ:St)(H:Hp)(xs:List V)(us:List Value)(Q:VK),Inv X pins σ H s->Vals xs us->r xs H Q->
  wpAny (model X.prog X.w) X.A (call f us) (EP X pins σ Q) X.xe s
def tOp(r:R2)(ta tb:TE):TE:=fun σ H Q=>ta σ H fun x H1=>tb σ H1 fun y H2=>r x y H2 Q
def tUn(r:V->Hp->VK->Prop)(ta:TE):TE:=fun σ H Q=>ta σ H fun x H1=>r x H1 Q
noncomputable def rI(C:Int->Int->Prop)(g:Int->Int->V):R2:=fun x y H Q=>∃i j,x=.int i/\y=.int j/\C i j/\Q (g i j) H
noncomputable def rI0(g:Int->Int->V):R2:=fun x y H Q=>∃i j,x=.int i/\y=.int j/\Q (g i j) H
def rU(g:Int->V):V->Hp->VK->Prop:=fun x H Q=>∃i,x=.int i/\Q (g i) H
section
variable{X:Cx}{a b c:Expr}{ta tb tc:TE}{pos:Pos}
theorem r6(ha:PE X a ta)(hb:PE X b tb){pins:List (Addr×Obj)}{s:Shared}{σ:St}{H:Hp}{R:V->V->Hp->Prop}(I:Inv X pins σ H s)
  (h:ta σ H fun x H1=>tb σ H1 fun y H2=>R x y H2) {Q:Value->Shared->Prop} {f:Value->Value->Sem Value}
  (hf:∀v u s2 x y H2,Inv X pins σ H2 s2->RelV x v->RelV y u->R x y H2->wpAny (model X.prog X.w) X.A (f v u) Q X.xe s2):
  wpAny (model X.prog X.w) X.A (eval a X.env) (fun v s₁=>wpAny (model X.prog X.w) X.A (eval b X.env) (fun u s₂=>wpAny (model X.prog X.w) X.A (f v u) Q X.xe s₂) X.xe s₁) X.xe s:=by
 refine thn (ha pins s σ H _ I h) fun v s1 hPz=>?_;obtain⟨x,H1,I1,r1,q1⟩:=hPz;refine thn (hb pins s1 σ H1 _ I1 q1) fun u s2 hPz=>?_;obtain⟨y,H2,I2,r2,q2⟩:=hPz;exact hf v u s2 x y H2 I2 r1 r2 q2
theorem aj{op:Operator}{r:R2}(ho:OpR X (binaryOp op) r)(ha:PE X a ta)(hb:PE X b tb):PE X (.BinOp a op b pos) (tOp r ta tb):=by intro pins s σ H Q I h;exact wpAny_BinOp (r6 ha hb I h fun v u s2 x y H2 I2 rx ry q=>ho pins s2 σ H2 x y v u Q I2 rx ry q)
theorem sP{op:UnaryOp}{r:V->Hp->VK->Prop}(ho:UnR X (unaryOp op) r)(ha:PE X a ta):PE X (.UnaryOp op a pos) (tUn r ta):=by intro pins s σ H Q I h;exact UnaryOp_ (thn (ha pins s σ H _ I h) fun v s1 hPz=>L2.ep3 hPz fun x H1 I1 r1 q1=>ho pins s1 σ H1 x v Q I1 r1 q1)
theorem opI{f:Value->Value->Sem Value}{C:Int->Int->Prop}{g:Int->Int->Int}
  (rule:∀(i j:Int)(t u:Tok)(s:Shared)(Q:Value->Shared->Prop)(E:Value->Shared->Prop),C i j->Q (.int (g i j) s.toks) {s with toks:=s.toks+1}->wpAny (model X.prog X.w) X.A (f (.int i t) (.int j u)) Q E s):
  OpR X f (rI C fun i j=>.int (g i j)):=by
 intro pins s σ H x y v u Q I rx ry h;obtain⟨i,j,rfl,rfl,hc,q⟩:=h;obtain⟨t,rfl⟩:=rx;obtain⟨t',rfl⟩:=ry;exact rule i j t t' s _ _ hc ⟨.int (g i j),H,I.tok _,⟨_,rfl⟩,q⟩
theorem oh{f:Value->Value->Sem Value}{g:Int->Int->Int}
  (rule:∀(i j:Int)(t u:Tok)(s:Shared)(Q:Value->Shared->Prop)(E:Value->Shared->Prop),Q (.int (g i j) s.toks) {s with toks:=s.toks+1}->wpAny (model X.prog X.w) X.A (f (.int i t) (.int j u)) Q E s):
  OpR X f (rI0 fun i j=>.int (g i j)):=by
 intro pins s σ H x y v u Q I rx ry h;obtain⟨i,j,rfl,rfl,q⟩:=h;obtain⟨t,rfl⟩:=rx;obtain⟨t',rfl⟩:=ry;exact rule i j t t' s _ _ ⟨.int (g i j),H,I.tok _,⟨_,rfl⟩,q⟩
theorem pY{f:Value->Value->Sem Value}{g:Int->Int->Bool}
  (rule:∀(i j:Int)(t u:Tok)(s:Shared)(Q:Value->Shared->Prop)(E:Value->Shared->Prop),Q (.bool (g i j)) s->wpAny (model X.prog X.w) X.A (f (.int i t) (.int j u)) Q E s):
  OpR X f (rI0 fun i j=>.bl (g i j)):=by
 intro pins s σ H x y v u Q I rx ry h;obtain⟨i,j,rfl,rfl,q⟩:=h;obtain⟨t,rfl⟩:=rx;obtain⟨t',rfl⟩:=ry;exact rule i j t t' s _ _ ⟨.bl (g i j),H,I,rfl,q⟩
def ud(i j:Int):Prop:=0<j/\j<1073741824
def tJ(i j:Int):Prop:=0<=j/\j<=1000000/\i.natAbs<2^64
def se(i j:Int):Prop:=(-(2^64)<i/\i<2^64)\/(-(2^64)<j/\j<2^64)
theorem se.ok{i j:Int}(h:se i j):IntMulOk i j:=by
 rcases h with⟨h1,h2⟩|⟨h1,h2⟩
 ·exact .of_left (intBits_le_64 h1 h2)
 ·exact .of_right (intBits_le_64 h1 h2)
theorem two_pow_nn(k:Nat):(0:Int)<=2^k:=by rw[two_pow_cast];exact Int.natCast_nonneg _
theorem aO:OpR X (binaryOp .Add) (rI0 fun i j=>.int (i+j)):=oh fun _ _ _ _ _ _ _ q=>add_int q
theorem aT:OpR X (binaryOp .Sub) (rI0 fun i j=>.int (i-j)):=oh fun _ _ _ _ _ _ _ q=>sub_int q
theorem cf:OpR X (binaryOp .Mult) (rI se fun i j=>.int (i*j)):=opI fun _ _ _ _ _ _ _ hc q=>mul_int q hc.ok
theorem bT:OpR X (binaryOp .FloorDiv) (rI ud fun i j=>.int (i / j)):=opI fun i j _ _ _ _ _ hc q=>by have h1:(0:Int)<j:=hc.1;have h2:j<1073741824:=hc.2;exact floordiv_int (by omega) (by rw[Int.fdiv_eq_ediv_of_nonneg i (by omega)];exact q) (.inl (PyProof.noPylong_small (by omega)))
theorem bp:OpR X (binaryOp .Mod) (rI (fun _ j=>0<j) fun i j=>.int (i % j)):=opI fun i j _ _ _ _ _ hc q=>by have h1:(0:Int)<j:=hc;exact mod_int' (by omega) (by rw[Int.fmod_eq_emod_of_nonneg i (by omega)];exact q)
theorem n6:OpR X (binaryOp .Pow) (rI tJ fun i j=>.int (i^j.toNat)):=opI fun _ _ _ _ _ _ _ hc q=>pow_int_small hc.1 hc.2.1 hc.2.2 q
theorem e8:OpR X (binaryOp .LShift) (rI tJ fun i j=>.int (i*2^j.toNat)):=opI fun _ _ _ _ _ _ _ hc q=>lshift_int_small hc.1 hc.2.1 hc.2.2 q
theorem rA:OpR X (binaryOp .RShift) (rI (fun _ j=>0<=j) fun i j=>.int (i / 2^j.toNat)):=opI fun i j _ _ _ _ _ hc q=>rshift_int hc (by rw[Int.fdiv_eq_ediv_of_nonneg i (two_pow_nn _)];exact q)
theorem og:OpR X (binaryOp .BitAnd) (rI0 fun i j=>.int (Builtin.bitAnd i j)):=oh fun _ _ _ _ _ _ _ q=>and_int q
theorem sR:OpR X (binaryOp .BitOr) (rI0 fun i j=>.int (Builtin.bitOr i j)):=oh fun _ _ _ _ _ _ _ q=>or_int q
theorem rz:OpR X (binaryOp .BitXor) (rI0 fun i j=>.int (Builtin.bitXor i j)):=oh fun _ _ _ _ _ _ _ q=>xor_int q
theorem unI{f:Value->Sem Value}{g:Int->Int}
  (rule:∀(i:Int)(t:Tok)(s:Shared)(Q:Value->Shared->Prop)(E:Value->Shared->Prop),Q (.int (g i) s.toks) {s with toks:=s.toks+1}->wpAny (model X.prog X.w) X.A (f (.int i t)) Q E s):
  UnR X f (rU fun i=>.int (g i)):=by
 intro pins s σ H x v Q I rx h;obtain⟨i,rfl,q⟩:=h;obtain⟨t,rfl⟩:=rx;exact rule i t s _ _ ⟨.int (g i),H,I.tok _,⟨_,rfl⟩,q⟩
theorem qR:UnR X (unaryOp .USub) (rU fun i=>.int (-i)):=unI fun _ _ _ _ _ q=>neg_int q
end
noncomputable def sG:V->V->Bool
 | .non,.non=>true| .non,.int _=>true| .int _,.non=>true| .non,.bl _=>true| .bl _,.non=>true| .non,.str _=>true| .str _,.non=>true
 | .int _,.int _=>true| .bl _,.bl _=>true| .str _,.str _=>true| .byt _,.byt _=>true
 | .int _,.str _=>true| .str _,.int _=>true| .bl _,.str _=>true| .str _,.bl _=>true
 |_,_=>false
noncomputable def rEq:R2:=fun x y H Q=>sG x y=true/\Q (.bl (decide (x=y))) H
noncomputable def rNe:R2:=fun x y H Q=>sG x y=true/\Q (.bl (!decide (x=y))) H
theorem mD{i j:Int}:decide (V.int i=V.int j)=(i==j):=by rw[vu];simp
theorem oP{i j:Bool}:decide (V.bl i=V.bl j)=(i==j):=by rw[vu];simp
theorem mB{i j:Str}:decide (V.str i=V.str j)=(i==j):=by rw[vu];simp
theorem mE{i j:Array UInt8}:decide (V.byt i=V.byt j)=(i.toList==j.toList):=by rw[vu];cases i;cases j;simp
section
variable{X:Cx}{a b c:Expr}{ta tb tc:TE}{pos:Pos}
theorem aP{pins:List (Addr×Obj)}{σ:St}{H:Hp}{s:Shared}{Q:VK}{k k':Bool}(I:Inv X pins σ H s)(q:Q (.bl k) H)(e:k=k'):EP X pins σ Q (.bool k') s:=by subst e;exact⟨.bl k,H,I,rfl,q⟩
theorem cq:OpR X (compareOp .Eq) rEq:=by
 intro pins s σ H x y v u Q I rx ry h;obtain⟨hs,q⟩:=h;cases x with
 |non=>
  cases rx;cases y with
  |non=>cases ry;exact PySem.EqNone.eq_none_none (aP I q (by simp))
  |bl j=>cases ry;exact PySem.EqNone.eq_none_bool (aP I q (by simp))
  |int j=>obtain⟨t',rfl⟩:=ry;exact PySem.EqNone.eq_none_int (aP I q (by simp))
  |str j=>obtain⟨t',rfl⟩:=ry;exact PySem.EqNone.eq_none_str (aP I q (by simp))
  |_=>exact absurd (show false=true from hs) uz
 |bl i=>
  cases rx;cases y with
  |non=>cases ry;exact PySem.EqNone.eq_bool_none (aP I q (by simp))
  |bl j=>cases ry;exact eq_bool (aP I q oP)
  |str j=>obtain⟨t',rfl⟩:=ry;exact PySem.EqMixed.eq_bool_str (aP I q (by simp))
  |_=>exact absurd (show false=true from hs) uz
 |int i=>
  obtain⟨t,rfl⟩:=rx;cases y with
  |non=>cases ry;exact PySem.EqNone.eq_int_none (aP I q (by simp))
  |int j=>obtain⟨t',rfl⟩:=ry;exact eq_int (aP I q mD)
  |str j=>obtain⟨t',rfl⟩:=ry;exact PySem.EqMixed.eq_int_str (aP I q (by simp))
  |_=>exact absurd (show false=true from hs) uz
 |str i=>
  obtain⟨t,rfl⟩:=rx;cases y with
  |non=>cases ry;exact PySem.EqNone.eq_str_none (aP I q (by simp))
  |bl j=>cases ry;exact PySem.EqMixed.eq_str_bool (aP I q (by simp))
  |int j=>obtain⟨t',rfl⟩:=ry;exact PySem.EqMixed.eq_str_int (aP I q (by simp))
  |str j=>obtain⟨t',rfl⟩:=ry;exact eq_str (aP I q mB)
  |_=>exact absurd (show false=true from hs) uz
 |byt i=>
  obtain⟨t,rfl⟩:=rx;cases y with
  |byt j=>obtain⟨t',rfl⟩:=ry;exact PySem.W.eq_bytes (aP I q mE)
  |_=>exact absurd (show false=true from hs) uz
 |_=>cases y<;>exact absurd (show false=true from hs) uz
theorem mh:OpR X (compareOp .NotEq) rNe:=by
 intro pins s σ H x y v u Q I rx ry h;obtain⟨hs,q⟩:=h;cases x with
 |non=>
  cases rx;cases y with
  |non=>cases ry;exact PySem.EqNone.ne_none_none (aP I q (by simp))
  |bl j=>cases ry;exact PySem.EqNone.ne_none_bool (aP I q (by simp))
  |int j=>obtain⟨t',rfl⟩:=ry;exact PySem.EqNone.ne_none_int (aP I q (by simp))
  |str j=>obtain⟨t',rfl⟩:=ry;exact PySem.EqNone.ne_none_str (aP I q (by simp))
  |_=>exact absurd (show false=true from hs) uz
 |bl i=>
  cases rx;cases y with
  |non=>cases ry;exact PySem.EqNone.ne_bool_none (aP I q (by simp))
  |bl j=>cases ry;exact ne_bool (aP I q (congrArg not oP))
  |str j=>obtain⟨t',rfl⟩:=ry;exact PySem.EqMixed.ne_bool_str (aP I q (by simp))
  |_=>exact absurd (show false=true from hs) uz
 |int i=>
  obtain⟨t,rfl⟩:=rx;cases y with
  |non=>cases ry;exact PySem.EqNone.ne_int_none (aP I q (by simp))
  |int j=>obtain⟨t',rfl⟩:=ry;exact ne_int (aP I q (congrArg not mD))
  |str j=>obtain⟨t',rfl⟩:=ry;exact PySem.EqMixed.ne_int_str (aP I q (by simp))
  |_=>exact absurd (show false=true from hs) uz
 |str i=>
  obtain⟨t,rfl⟩:=rx;cases y with
  |non=>cases ry;exact PySem.EqNone.ne_str_none (aP I q (by simp))
  |bl j=>cases ry;exact PySem.EqMixed.ne_str_bool (aP I q (by simp))
  |int j=>obtain⟨t',rfl⟩:=ry;exact PySem.EqMixed.ne_str_int (aP I q (by simp))
  |str j=>obtain⟨t',rfl⟩:=ry;exact ne_str (aP I q (congrArg not mB))
  |_=>exact absurd (show false=true from hs) uz
 |byt i=>
  obtain⟨t,rfl⟩:=rx;cases y with
  |byt j=>obtain⟨t',rfl⟩:=ry;exact PySem.W.ne_bytes (aP I q (congrArg not mE))
  |_=>exact absurd (show false=true from hs) uz
 |_=>cases y<;>exact absurd (show false=true from hs) uz
theorem gQ:OpR X (compareOp .Lt) (rI0 fun i j=>.bl (decide (i<j))):=pY fun _ _ _ _ _ _ _ q=>lt_int q
theorem iI:OpR X (compareOp .LtE) (rI0 fun i j=>.bl (decide (i<=j))):=pY fun _ _ _ _ _ _ _ q=>le_int q
theorem n8:OpR X (compareOp .Gt) (rI0 fun i j=>.bl (decide (j<i))):=pY fun _ _ _ _ _ _ _ q=>gt_int q
theorem sT:OpR X (compareOp .GtE) (rI0 fun i j=>.bl (decide (j<=i))):=pY fun _ _ _ _ _ _ _ q=>ge_int q
theorem aF(b:Expr){op:CmpOp}(h:op≠ .In:=by decide)(h2:op≠ .NotIn:=by decide):behindInMarks op b=false:=by
 have e1:(op==CmpOp.In)=false:=by cases op<;>first|rfl|exact absurd rfl h
 have e2:(op==CmpOp.NotIn)=false:=by cases op<;>first|rfl|exact absurd rfl h2
 cases b<;>simp[behindInMarks,e1,e2]
theorem aY{op:CmpOp}{r:R2}(ho:OpR X (compareOp op) r)(ha:PE X a ta)(hb:PE X b tb)(hm:behindInMarks op b=false):PE X (.Compare a [op] [b] pos) (tOp r ta tb):=by intro pins s σ H Q I h;exact wpAny_Compare1 (r6 ha hb I h fun v u s2 x y H2 I2 rx ry q=>ho pins s2 σ H2 x y v u Q I2 rx ry q) hm
def sk(t:TE):TT:=fun σ H Q=>t σ H fun x H'=>∃k,x=.bl k/\Q k H'
theorem aU{op:CmpOp}{r:R2}(ho:OpR X (compareOp op) r)(ha:PE X a ta)(hb:PE X b tb)(hm:behindInMarks op b=false):PT X (.Compare a [op] [b] pos) (sk (tOp r ta tb)):=by
 intro pins s σ H Q I h
 refine wpAny_isTrue_Compare1 (thn (ha pins s σ H _ I h) fun v s1 hPz=>L2.ep3 hPz fun x H1 I1 r1 q1=>thn (hb pins s1 σ H1 _ I1 q1) fun u s2 ⟨y,H2,I2,r2,q2⟩=>thn (ho pins s2 σ H2 x y v u _ I2 r1 r2 q2) fun c s3 ⟨z,H3,I3,r3,k,e,q3⟩=>?_) hm
 subst e;cases r3;exact vP ⟨H3,I3,q3⟩
def qU(r r':R2)(ta tb tc:TE):TE:=fun σ H Q=>ta σ H fun x H1=>tb σ H1 fun y H2=>r x y H2 fun z H3=>∃k,z=.bl k/\
 (if k=true then tc σ H3 fun w' H4=>r' y w' H4 Q else Q (.bl false) H3)
theorem fK{op op':CmpOp}{r r':R2}(ho:OpR X (compareOp op) r)(ho':OpR X (compareOp op') r')(ha:PE X a ta)(hb:PE X b tb)(hc:PE X c tc)
  (hm:lastMarks [op,op'] [b,c]=false:=by with_unfolding_all rfl):PE X (.Compare a [op,op'] [b,c] pos) (qU r r' ta tb tc):=by
 intro pins s σ H Q I h
 refine Compare_chain (thn (ha pins s σ H _ I h) fun v s1 hPz=>L2.ep3 hPz fun x H1 I1 r1 q1=>chain_link (thn (hb pins s1 σ H1 _ I1 q1) fun u s2 ⟨y,H2,I2,r2,q2⟩=>thn (ho pins s2 σ H2 x y v u _ I2 r1 r2 q2) fun d s3 ⟨z,H3,I3,r3,k,e,q3⟩=>?_)) hm
 subst e;cases r3;refine vP ?_;cases k with
 |false=>exact ite_ff ⟨.bl false,H3,I3,rfl,q3⟩
 |true=>exact ite_tt (chain_last (thn (hc pins s3 σ H3 _ I3 q3) fun w' s4 ⟨z',H4,I4,r4,q4⟩=>ho' pins s4 σ H4 y z' u w' Q I4 r2 r4 q4))
theorem lD:(sizeLine:Nat)<2^63:=by rw[vQ];decide
theorem vals1{x:V}{us:List Value}(r:Vals [x] us):∃u,us=[u]/\RelV x u:=by
 cases r with
 |cons r1 r2=>cases r2;exact⟨_,rfl,r1⟩
theorem vals2{x y:V}{us:List Value}(r:Vals [x,y] us):∃u w',us=[u,w']/\RelV x u/\RelV y w':=by
 cases r with
 |cons r1 r2=>
  cases r2 with
  |cons r3 r4=>cases r4;exact⟨_,_,rfl,r1,r3⟩
theorem eM:ef X (.type "int") (fun xs H Q=>(∃i,xs=[.int i]/\Q (.int i) H)\/∃k,xs=[.bl k]/\Q (.int (if k then 1 else 0)) H):=by
 intro pins s σ H xs us Q I r h;rcases h with⟨i,rfl,q⟩|⟨k,rfl,q⟩
 ·obtain⟨u,rfl,t,rfl⟩:=vals1 r;exact call_int_int ⟨.int i,H,I,⟨_,rfl⟩,q⟩
 ·obtain⟨u,rfl,r1⟩:=vals1 r;cases r1;exact call_int_bool ⟨.int (if k then 1 else 0),H,I.tok _,⟨_,rfl⟩,q⟩
end
structure r9(h:Heap)(x dx C:Addr)(mA:Str->Option Value):Prop where
 obj:h.get? x=some (PySem.W.instObj C dx)
 ns:h.Ns1 dx mA
 ne:dx≠x
theorem nc{h:Heap}{dx:Addr}{mA:Str->Option Value}(n:h.Ns1 dx mA):∃od,h.get? dx=some od/\∀name,PySem.W.lookIn name od=some (mA name):=by
 obtain⟨o,es,ep,ho,hd,hk,_,hm⟩:=n;refine⟨o,ho,fun name=>?_⟩;have e:=hm name;unfold nsFind findBy at e;rw[<-Array.find?_toList]at e;unfold PySem.W.lookIn;rw[hd];dsimp only;split
 ·rename_i y q;rw[q]at e;exact congrArg some e
 ·rename_i q;rw[q]at e;have a:es.toList.any (·.refKey)=false:=by
   rw[List.any_eq_false];intro y hy;obtain⟨z,t,hkey⟩:=hk y (Array.mem_toList_iff.mp hy);simp[DictEntry.refKey,hkey]
  have a':¬es.toList.any (·.refKey)=true:=by rw[a];exact uz
  rw[uo a'];exact congrArg some e
theorem r9.look{h:Heap}{x dx C:Addr}{mA:Str->Option Value}(I:r9 h x dx C mA):∃od,PySem.W.InstAt h x (PySem.W.instObj C dx) C (some od)/\∀name,PySem.W.lookIn name od=some (mA name):=
 let ⟨od,ho,hl⟩:=nc I.ns
 ⟨od,⟨I.obj,rfl,rfl,ho⟩,hl⟩
section
variable{P:Program}{w:World}{H H':Hp}{h h':Heap}{a C dx:Addr}{fs fs':List (Str×V)}
theorem qr(hok:HOk P w H h)(e:H a=some (.ins C dx fs)):∃mA,r9 h a dx C mA/\(∀f,r8 (fs.lookup f) (mA f))/\PySem.Within mA (fs.map (·.1))/\fs.length<=1000/\H dx=some (.own a):=by obtain⟨d,z,ne,ob,mA,n,r,q⟩:=(show bQ P w H h a (.ins C dx fs)from hok a _ e);exact⟨mA,⟨ob,n,ne⟩,r,q,z,d⟩
end
structure Cls(K:Frag)(C:Addr):Prop where
 pg:PySem.W.plainGet K C Str.empty=true
 hd:PySem.W.hasDictIn K C=true
 po:PySem.W.plainOver K C=true
 sa:PySem.W.findIn K (.ref C) "__setattr__"=some (some (.builtin "object.__setattr__"))
theorem Cls.get{K:Frag}{C:Addr}(c:Cls K C)(f:Str):PySem.W.plainGet K C f=true:=c.pg
section
variable{X:Cx}{pins:List (Addr×Obj)}{σ:St}{H:Hp}{s:Shared}{A:Around}{E:Value->Shared->Prop}{Q:Value->Shared->Prop}{c:Value}{b:Bool}
inductive c0(K:Frag)(H:Hp):V->Value->Prop where
 |non:c0 K H .non (.type "NoneType")
 |bl (x:Bool):c0 K H (.bl x) (.type "bool")
 |int (i:Int):c0 K H (.int i) (.type "int")
 |str (x:Str):c0 K H (.str x) (.type "str")
 |flt (x:UInt64):c0 K H (.flt x) (.type "float")
 |lst {a:Addr} {xs:List V} (e:H a=some (.lst xs)):c0 K H (.ref a) (.type "list")
 |frz {a:Addr} {o:Obj} {xs:List V} (e:H a=some (.frz o (.lst xs))):c0 K H (.ref a) (.type "list")
 |tup {a:Addr} {xs:List V} (e:H a=some (.tup xs)):c0 K H (.ref a) (.type "tuple")
 |dK {a:Addr} {kvs:List (Key×V)} (e:H a=some (.dK kvs)):c0 K H (.ref a) (.type "dict")
 |dT {a:Addr} {kvs:List (List Key×V)} (e:H a=some (.dT kvs)):c0 K H (.ref a) (.type "dict")
 |ins {a C dx:Addr} {fs:List (Str×V)} (e:H a=some (.ins C dx fs)) (cl:Cls K C) (ha:PySem.W.findIn K (.ref C) "__class__"=some (some (.builtin "object.__class__")))
  (hn:PySem.W.specialIn K (.builtin "object.__class__") "__get__"=some (some (.builtin "getset_descriptor.__get__"))) (htk:PySem.W.takesIn K (.builtin "object.__class__")=some true)
  (hm:PySem.W.mroIn K C (.type "object")=some true):c0 K H (.ref a) (.ref C)
theorem nk{x:V}{u t:Value}(I:Inv X pins σ H s)(rx:RelV x u)(ty:c0 X.K H x t)(e:kitOne X.K t c=some b)(h:∀tk,Q (.bool b) {s with toks:=tk}):
  wpAny (model X.prog X.w) A (call (.builtin "isinstance") [u,c]) Q E s:=by
 cases ty with
 |non=>cases (show u=Value.none from rx);exact vz PySem.W.kitx_none I.kIn True.intro e (fun z=>nomatch z) h
 |bl y=>cases (show u=Value.bool y from rx);exact vz PySem.W.kitx_bool I.kIn True.intro e (fun z=>nomatch z) h
 |int i=>obtain⟨t,q⟩:=(show ∃t,u=Value.int i t from rx);cases q;exact vz PySem.W.kitx_int I.kIn True.intro e (fun z=>nomatch z) h
 |str y=>obtain⟨t,q⟩:=(show ∃t,u=Value.str y t from rx);cases q;exact vz PySem.W.kitx_str I.kIn True.intro e (fun z=>nomatch z) h
 |flt y=>obtain⟨t,q⟩:=(show ∃t,u=Value.float y t from rx);cases q;exact vz PySem.W.kitx_float I.kIn True.intro e (fun z=>nomatch z) h
 | @lst a xs ea=>cases (show u=Value.ref a from rx);obtain⟨_,_,n,_,h1⟩:=(show bQ X.prog X.w H s.heap a (.lst xs)from I.hok a _ ea);exact vz PySem.W.kitx_list I.kIn ⟨_,h1,rfl⟩ e (fun z=>nomatch z) h
 | @frz a ob xs ea=>cases (show u=Value.ref a from rx);obtain⟨_,_,_,n,_,h1⟩:=(show bQ X.prog X.w H s.heap a (.frz ob (.lst xs))from I.hok a _ ea);exact vz PySem.W.kitx_list I.kIn ⟨_,h1,rfl⟩ e (fun z=>nomatch z) h
 | @tup a xs ea=>cases (show u=Value.ref a from rx);obtain⟨_,_,_,p⟩:=(show bQ X.prog X.w H s.heap a (.tup xs)from I.hok a _ ea);obtain⟨o,h1,h2,_⟩:=p;exact vz PySem.W.kitx_tuple I.kIn ⟨o,h1,h2⟩ e (fun z=>nomatch z) h
 | @dK a kvs ea=>cases (show u=Value.ref a from rx);obtain⟨_,_,vs,_,p⟩:=(show bQ X.prog X.w H s.heap a (.dK kvs)from I.hok a _ ea);obtain⟨o,es,ep,h1,h2,_⟩:=p;exact vz PySem.W.kitx_dict I.kIn ⟨o,h1,h2.1⟩ e (fun z=>nomatch z) h
 | @dT a kvs ea=>cases (show u=Value.ref a from rx);obtain⟨_,_,xs,_,o,es,ep,h1,h2,_⟩:=(show bQ X.prog X.w H s.heap a (.dT kvs)from I.hok a _ ea);exact vz PySem.W.kitx_dict I.kIn ⟨o,h1,h2.1⟩ e (fun z=>nomatch z) h
 | @ins a C dx fs ea cl ha hn htk hm=>cases (show u=Value.ref a from rx);obtain⟨mA,O,_⟩:=qr I.hok ea;obtain⟨od,J,_⟩:=O.look;exact vz (PySem.W.kitx_own (cl.get _) cl.hd ha hn htk hm) I.kIn J e (fun z=>nomatch z) h
end
structure dF(k:Nat)(A:Around):Prop where
 hd:A.handled=none
 dp:A.depth+3*k+5<recursionLimit
 un:A.units+16*k+200<cLine
theorem dF.mono{j k:Nat}{A:Around}(r:dF k A)(h:j<=k):dF j A:=⟨r.hd,by have:=r.dp;omega,by have:=r.un;omega⟩
theorem dF.deeper{k:Nat}{A:Around}(r:dF (k+1) A)(env:Env):dF k (A.deeper env):=
 ⟨r.hd,by have:=r.dp;show A.depth+1+3*k+5<_;omega,by have:=r.un;show A.units+3+16*k+200<_;omega⟩
theorem dF.depth{k:Nat}{A:Around}(r:dF k A):A.depth<recursionLimit:=by have:=r.dp;omega
theorem dF.units{k:Nat}{A:Around}(r:dF k A):A.units+64<cLine:=by have:=r.un;omega
def tR:TA:=fun _ H Q=>Q [] H
def sC(ta:TE)(tr:TA):TA:=fun σ H Q=>ta σ H fun x H1=>tr σ H1 fun xs H2=>Q (x::xs) H2
section
variable{X:Cx}{e:Expr}{es:List Expr}{te:TE}{t:TA}{pos:Pos}
theorem ae:PA X [] tR:=fun _ _ _ _ H Q I h=>Calls.spliced_nil ⟨[],H,I,.nil,h⟩
theorem aa(ha:PE X e te)(hr:PA X es t)(hs:starEach (e::es) X.env=(false,eval e X.env)::starEach es X.env:=by rfl):PA X (e::es) (sC te t):=by intro pos pins s σ H Q I h;rw[hs];show wpAny _ _ (spliced ((false,eval e X.env)::backTo pos (starEach es X.env))) _ _ s;refine Calls.spliced_cons (thn (ha pins s σ H _ I h) fun u s1 hPz=>?_);obtain⟨x,H1,I1,r1,q1⟩:=hPz;exact thn (hr pos pins s1 σ H1 _ I1 q1) fun us s2 hPz=>L2.ep3 hPz fun xs H2 I2 r2 q2=>⟨x::xs,H2,I2,.cons r1 r2,q2⟩
def tM(t:TA):TE:=fun σ H Q=>t σ H fun xs H1=>xs.length<=sizeLine/\∀p,H1 p=none->Q (.ref p) (upd H1 p (.tup xs))
def tS(t:TA):TE:=fun σ H Q=>t σ H fun xs H1=>xs.length<=sizeLine/\∀p,H1 p=none->Q (.ref p) (upd H1 p (.lst xs))
theorem aH{x1}(h:PA X es t):PE X (.Tuple es x1 pos) (tM t):=by intro pins s σ H Q I hq;refine wpAny_Tuple_spliced (thn (h pos pins s σ H _ I hq) fun us s1 ⟨xs,H1,I1,r,z,q⟩=>⟨by rw[<-r.length];exact z,?_⟩);have hf:H1 s1.heap.objs.size=none:=I1.hok.fresh (uA _);refine⟨.ref s1.heap.objs.size,upd H1 s1.heap.objs.size (.tup xs),I1.laid (t':=s1.toks) (fun b u e=>uh _ e) (uA _) ?_,rfl,q _ hf⟩;exact⟨z,us,r,⟨_,uK _ rfl,rfl,_,rfl⟩⟩
theorem d8(h:PA X es t):PE X (.List es pos) (tS t):=by intro pins s σ H Q I hq;refine wpAny_List_spliced (thn (h pos pins s σ H _ I hq) fun us s1 ⟨xs,H1,I1,r,z,q⟩=>⟨by rw[<-r.length];exact z,?_⟩);have hf:H1 s1.heap.objs.size=none:=I1.hok.fresh (uA _);refine⟨.ref s1.heap.objs.size,upd H1 s1.heap.objs.size (.lst xs),I1.laid (t':=s1.toks) (fun b u e=>uh _ e) (uA _) ?_,rfl,q _ hf⟩;exact⟨z,us,0,r,uK _ rfl⟩
end
noncomputable abbrev Sp:=List V->Hp->VK->XK->Prop
noncomputable abbrev CXT:=List Env->Hp->Shared->XK->Value->Shared->Prop
structure qG(P:Program)(w:World)(K:Frag)(mg:Str->Option Value)(base:Heap)(A:Around)(outer:List Env)(s:Shared)(H:Hp):Prop where
 frames:A.frames=some outer
 mod:Mod K mg base
 bs:∀b o,base.get? b=some o->s.heap.get? b=some o/\H b=none
 bsz:base.objs.size<=s.heap.objs.size
 funs:s.heap.FunFrames base outer
 frf:∀b∈frs outer,H b=none
 hok:HOk P w H s.heap
 bare:AllBare s.gens
def CE(outer:List Env)(P:Program)(w:World)(H:Hp)(s:Shared)(Q:VK)(u:Value)(s':Shared):Prop:=
 ∃v H',s'.os=s.os/\AllBare s'.gens/\Un (frs outer) [] H H' s.heap s'.heap/\HOk P w H' s'.heap/\RelV v u/\Q v H'
def CR(CX:CXT)(outer:List Env)(P:Program)(w:World)(H:Hp)(s:Shared)(Q:VK)(E:XK)(r:Result)(s':Shared):Prop:=
 match r with
 | .ok (.ret u)=>CE outer P w H s Q u s'
 | .ok _=>False
 | .error e=>CX outer H s E e s'
structure jF(P:Program)(w:World)(K:Frag)(mg:Str->Option Value)(base:Heap)(CX:CXT)(k:Nat)(f:Addr)(fd:FuncData)(ps:List Str)(sp:Sp):Prop where
 len:∀vs H Q E,sp vs H Q E->vs.length=ps.length
 run:∀(A:Around)(outer:List Env)(s:Shared)(H:Hp)(args:Args)(us:List Value)(vs:List V)(Q:VK)(E:XK),dF k A->qG P w K mg base A outer s H->BindsTo s fd args (ps.zip us)->Vals vs us->sp vs H Q E->
  codeAny (model P w) A (.call (.ref f) args) (CR CX outer P w H s Q E) s
section
variable{X:Cx}{pins:List (Addr×Obj)}{σ:St}{H:Hp}{s s':Shared}
theorem Inv.env0(I:Inv X pins σ H s):qG X.prog X.w X.K X.mg X.base X.A X.stack s H:=
 ⟨I.ok.frames,I.ok.mod,I.bs,vS I.ok.bsz I.sz,I.stack,I.stkFree,I.hok,I.bare⟩
theorem Inv.after{Q:VK}{u:Value}(I:Inv X pins σ H s)(h:CE X.stack X.prog X.w H s Q u s'):EP X pins σ Q u s':=by obtain⟨v,H',os,bare,un,hok,r,q⟩:=h;obtain⟨hh,g,d,t,os'⟩:=s';obtain rfl:os'=s.os:=os;exact⟨v,H',I.call (h':=hh) (g':=g) (d':=d) (t':=t) (ch:=[]) un hok bare (fun b z=>absurd z (by simp)),r,q⟩
end
def nK(sp:Sp)(dvs:List V)(E:XK)(t:TA):TE:=fun σ H Q=>t σ H fun vs H1=>sp (vs++dvs) H1 Q E
def Binds(K:Frag)(fd:FuncData)(ps:List Str)(ds:List Value):Prop:=
 ∀(s:Shared)(us:List Value),K.In s.heap->(us++ds).length=ps.length->BindsTo s fd ⟨us,[]⟩ (ps.zip (us++ds))
theorem Binds.all{K:Frag}{fd:FuncData}{ps:List Str}(h:∀us:List Value,us.length=ps.length->bindArgs fd ⟨us,[]⟩=pure (ps.zip us)):Binds K fd ps []:=fun s us _ hl=>by rw[vn]at hl ⊢;exact .of_eq (h us hl)
def Passes(CX:CXT)(X:Cx)(E:XK):Prop:=∀(pins:List (Addr×Obj))(σ:St)(H:Hp)(s:Shared)(e:Value)(s':Shared),Inv X pins σ H s->CX X.stack H s E e s'->X.xe e s'
section
variable{X:Cx}{CX:CXT}{k:Nat}{f C:Addr}{fd:FuncData}{ps:List Str}{sp:Sp}{dvs:List V}{ds:List Value}{E:XK}{x m:Str}{p pos apos:Pos}{e o:Expr}{es:List Expr}{ta:TE}{t:TA}
theorem qX{pins:List (Addr×Obj)}{σ:St}{H:Hp}{s:Shared}{Q:VK}{us:List Value}{vs:List V}(F:jF X.prog X.w X.K X.mg X.base CX k f fd ps sp)(hr:dF k X.A)(hb:Binds X.K fd ps ds)(hd:Vals dvs ds)(hx:Passes CX X E)
  (I:Inv X pins σ H s) (r:Vals vs us) (h:sp (vs++dvs) H Q E):wpAny (model X.prog X.w) X.A (call (.ref f) us) (EP X pins σ Q) X.xe s:=by
 have r2:Vals (vs++dvs) (us++ds):=r.append hd;have hl:(us++ds).length=ps.length:=by rw[<-r2.length];exact F.len _ _ _ _ h
 refine wpAny_call (codeAny_mono (F.run X.A X.stack s H ⟨us,[]⟩ (us++ds) (vs++dvs) Q E hr I.env0 (hb s us I.kIn hl) r2 h) fun r s' hq=>?_);cases r with
 |error e=>exact hx pins σ H s e s' I hq
 |ok fl=>
  cases fl with
  |ret u=>exact I.after hq
  |next=>exact False.elim hq
  |brk=>exact False.elim hq
  |cont=>exact False.elim hq
theorem pT(F:jF X.prog X.w X.K X.mg X.base CX k f fd ps sp)(hr:dF k X.A)(hg:Gl X x)(hm:X.mg x=some (.ref f))(hk:keepIn X.K (.ref f)=true)(hb:Binds X.K fd ps ds)(hd:Vals dvs ds)(hx:Passes CX X E)
  (ha:PA X (e::es) t) (hdb:(x==("__debug__":Str))=false:=by decide) (he:starEach (e::es) X.env=(false,eval e X.env)::starEach es X.env:=by rfl) (hpl:(backTo pos (starEach es X.env)).any (·.1)=false:=by rfl):
  PE X (.Call (.Name x p) (e::es) [] pos) (nK sp dvs E t):=by
 intro pins s σ H Q I h;refine wpAny_Call_Name_kw (qh I hg hm ?_ hdb);refine PySem.W.callWith_K (h₀:=X.base) I.ok.mod.kin hk (thn (ha pos pins s σ H _ I h) fun us s1 hPz=>L2.ep3 hPz fun vs H1 I1 r q=>⟨I1.kIn,?_⟩) he hpl;exact qX F hr hb hd hx I1 r q
end
structure aE(N P:List Str)(sc:Scope):Prop where
 kind:sc.kind=.function
 co:sc.isCoroutine=false
 gen:sc.isGenerator=false
 nd:N.Nodup
 pre:N.take P.length=P
 par:∀x∈P,sc.names.lookup x=some .local\/sc.names.lookup x=some .cell
 nofree:∀y∈sc.names,y.2≠ .free
theorem iS{kindOf:Str->Option NameKind}{x:Str}:∀{binds:List (Str×Value)}{m:Str->Option Value},(∀v,(x,v)∉binds)->bindL kindOf binds m x=m x
 | [],_,_=>rfl
 |(n,v)::r,m,h=>by
  unfold bindL;rw[iS fun w hw=>h w (uv _ hw)];split
  ·have:x≠n:=(by rintro rfl;exact h v uy);simp[this]
  ·rfl
theorem iU{kindOf:Str->Option NameKind}{x:Str}:∀{binds:List (Str×Value)}{m:Str->Option Value},(∀v,(x,v)∉binds)->bindC kindOf binds m x=m x
 | [],_,_=>rfl
 |(n,v)::r,m,h=>by
  unfold bindC;rw[iU fun w hw=>h w (uv _ hw)];split
  ·rfl
  ·have:x≠n:=(by rintro rfl;exact h v uy);simp[this]
theorem iT{kindOf:Str->Option NameKind}{x:Str}{v:Value}:∀{P:List Str}{vs:List Value}{i:Nat}{m:Str->Option Value},P.Nodup->P[i]?=some x->vs[i]?=some v->kindOf x=some .local->
  bindL kindOf (P.zip vs) m x=some v
 | [],_,_,_,_,h,_,_=>by simp at h
 |_::_,[],_,_,_,_,h,_=>by simp at h
 |p::P,w::vs,0,m,nd,h1,h2,hk=>by simp at h1 h2;subst h1;subst h2;show bindL kindOf ((p,w)::P.zip vs) m p=_;unfold bindL;rw[iS fun v hv=>(vh.mp nd).1 (List.of_mem_zip hv).1,um hk];simp
 |p::P,w::vs,i+1,m,nd,h1,h2,hk=>by show bindL kindOf ((p,w)::P.zip vs) m x=_;unfold bindL;exact iT (i:=i) (vh.mp nd).2 (by simpa using h1) (by simpa using h2) hk
theorem iV{kindOf:Str->Option NameKind}{x:Str}{v:Value}:∀{P:List Str}{vs:List Value}{i:Nat}{m:Str->Option Value},P.Nodup->P[i]?=some x->vs[i]?=some v->kindOf x≠some .local->
  bindC kindOf (P.zip vs) m x=some v
 | [],_,_,_,_,h,_,_=>by simp at h
 |_::_,[],_,_,_,_,h,_=>by simp at h
 |p::P,w::vs,0,m,nd,h1,h2,hk=>by simp at h1 h2;subst h1;subst h2;show bindC kindOf ((p,w)::P.zip vs) m p=_;unfold bindC;rw[iU fun v hv=>(vh.mp nd).1 (List.of_mem_zip hv).1,uo hk];simp
 |p::P,w::vs,i+1,m,nd,h1,h2,hk=>by show bindC kindOf ((p,w)::P.zip vs) m x=_;unfold bindC;exact iV (i:=i) (vh.mp nd).2 (by simpa using h1) (by simpa using h2) hk
noncomputable def start(N:List Str)(vs:List V):St:=vs.map some++List.replicate (N.length-vs.length) none
noncomputable def lM(CX:CXT)(P:Program)(w:World)(K:Frag)(mg:Str->Option Value)(base:Heap)(N:List Str)(qual:Str)(scope:Scope)(f:Addr)(cd:Value)(A:Around)(outer:List Env)(s:Shared)(H:Hp)(E:XK):Cx where
 prog:=P
 w:=w
 K:=K
 mg:=mg
 base:=base
 A:=A.deeper (envOfC qual scope s.heap.objs.size f cd)
 N:=N
 s₀:=s
 H₀:=H
 env:=envOfC qual scope s.heap.objs.size f cd
 outer:=outer
 stack:=envOfC qual scope s.heap.objs.size f cd::outer
 ex:=[]
 calm:=true
 fn:=fun _=>true
 pn:=[]
 xe:=fun e s'=>wpAny (model P w) (A.deeper (envOfC qual scope s.heap.objs.size f cd)) (leaving (envOfC qual scope s.heap.objs.size f cd) e) (fun _ s''=>CX outer H s E e s'') (fun e' s''=>CX outer H s E e' s'') s'
theorem kD{sc:Scope}{n:Nat}{x:Str}(h:sc.names.lookup x=some .cell):∃c,(cellsFrom n sc.names []).lookup x=some c:=by have q:=PySem.W.cellsFrom_some sc.names n [] (.inl h);exact Option.isSome_iff_exists.mp q
theorem nq{CX:CXT}{P:Program}{w:World}{K:Frag}{mg:Str->Option Value}{base:Heap}{N ps:List Str}{qual:Str}{scope:Scope}{f:Addr}{cd:Value}{A:Around}{outer:List Env}{s s1:Shared}{H:Hp}{E:XK}{us:List Value}{vs:List V}
  (S:aE N ps scope) (hd:A.handled=none) (e0:qG P w K mg base A outer s H) (hl:vs.length=ps.length) (r:Vals vs us)
  (x:InCallC s s.heap.objs.size (bindL (envOfC qual scope s.heap.objs.size f cd).kindOf (ps.zip us) fun _=>none) (cellsFrom (s.heap.objs.size+1) scope.names []) (bindC (envOfC qual scope s.heap.objs.size f cd).kindOf (ps.zip us) fun _=>none) s1):
  Inv (lM CX P w K mg base N qual scope f cd A outer s H E) [] (start N vs) H s1:=by
 have hpl:ps.length<=N.length:=by have:=congrArg List.length S.pre;rw[uG]at this;omega
 obtain⟨h1,tk,rfl,hk⟩:=x.done;have noA:∀b:Addr,b∉(lM CX P w K mg base N qual scope f cd A outer s H E).ex:=fun b z=>absurd (show b∈([]:List Addr)from z) (by simp)
 refine⟨⟨e0.mod,S.kind,rfl,rfl,uA _,fun y z c h1 h2=>?_,fun y hy=>?_,fun y c _ h=>?_,fun _=>hd,Around.frames_deeper e0.frames,.inr ⟨rfl,rfl⟩,fun b z=>absurd z (noA b),e0.bs,e0.bsz,fun b _ _=>noA b,fun b z=>absurd z (noA b),e0.funs,e0.frf⟩,
  rfl,e0.bare,Un.kept hk,⟨_,x.toInCall.ns,fun i y v h1 h2 h3=>?_⟩,fun y c h=>⟨_,x.cell y c h⟩,e0.hok.fresh (uA _),fun y c h=>?_,fun p hp=>absurd (show p∈([]:List (Addr×Obj))from hp) (by simp),e0.hok.kept hk,?_⟩
 ·exact name_of_addr x.apart (wb h1) (wb h2)
 ·have hy:scope.names.lookup y=some .cell\/scope.names.lookup y=some .free:=hy;rcases hy with hy|hy
  ·exact kD hy
  ·exact absurd rfl (S.nofree _ (wb hy))
 ·exact Nat.le_of_lt (x.above y c (wb h))
 ·have hi:i<vs.length:=by
   unfold start at h2;by_cases hi:i<vs.length
   ·exact hi
   ·rw[wg (by simpa using hi)]at h2;rw[List.getElem?_replicate]at h2;split at h2<;>cases h2
  have ha:vs[i]?=some v:=by
   unfold start at h2;rw[List.getElem?_append_left (by simpa using hi),uU]at h2;cases e:vs[i]? with
   |none=>rw[e]at h2;cases h2
   |some a=>rw[e]at h2;cases h2;rfl
  obtain⟨u,hu,rv⟩:=r.get ha;have hp:ps[i]?=some y:=by rw[<-S.pre,vU (by omega)];exact h1
  have ndP:ps.Nodup:=by rw[<-S.pre];exact S.nd.sublist (List.take_sublist _ _)
  refine⟨u,rv,?_⟩;rcases S.par y (uF hp)with k|k
  ·exact .inl ⟨k,iT ndP hp hu k⟩
  ·obtain⟨c,e⟩:=kD (n:=s.heap.objs.size+1) k;refine .inr ⟨.inl k,c,e,?_⟩;have q:=x.cell y c e;rw[iV ndP hp hu (by show scope.names.lookup y≠_;rw[k];decide)]at q;exact q
 ·exact e0.hok.fresh (Nat.le_of_lt (x.above y c (wb h)))
 ·unfold start;show _=N.length;rw[uV,uj,List.length_replicate];omega
theorem tE{CX:CXT}{P:Program}{w:World}{K:Frag}{mg:Str->Option Value}{base:Heap}{k:Nat}{f:Addr}{name qual:Str}{params:Arguments}{body:List Stmt}{scope:Scope}{dV kV doc pm cdv ct oc:Value}{an od:Option Addr}
  {osl:Array (Option Value)} {N ps:List Str} {sp:Sp} (lk:K.lookup f=some ⟨oc,od,.func (fnOf name qual params body scope dV kV doc pm an cdv ct),osl⟩) (hcd:codeIn K cdv qual=true) (S:aE N ps scope)
  (len:∀vs H Q E,sp vs H Q E->vs.length=ps.length)
  (hbody:∀(A:Around)(outer:List Env)(s:Shared)(H:Hp)(vs:List V)(Q:VK)(E:XK),dF k (A.deeper (envOfC qual scope s.heap.objs.size f cdv))->sp vs H Q E->
   ∃t,PSs (lM CX P w K mg base N qual scope f cdv A outer s H E) body t/\t {nx:=fun _ H'=>Q .non H',rt:=Q} (start N vs) H):
  jF P w K mg base CX (k+1) f (fnOf name qual params body scope dV kV doc pm an cdv ct) ps sp:=by
 refine⟨len,fun A outer s H args us vs Q E hr e0 hb r hsp=>?_⟩;have hl:=len _ _ _ _ hsp;have KX:K.In s.heap:=e0.mod.kin.keeps fun b o e=>(e0.bs b o e).1;have lim:s.heap.NoLimit:=e0.mod.nolimit.keeps fun b o e=>(e0.bs b o e).1;have hkind:∀y∈ps.zip us,scope.names.lookup y.1=some .local\/(scope.names.lookup y.1=some .cell/\((cellsFrom (s.heap.objs.size+1) scope.names []).lookup y.1).isSome=true):=fun⟨n,v⟩ hy=>by
  rcases S.par n (List.of_mem_zip hy).1 with q|q
  ·exact .inl q
  ·exact .inr ⟨q,PySem.W.cellsFrom_some _ _ _ (.inl q)⟩
 refine codeAny_call_function hr.depth (KX _ _ lk) rfl S.co S.gen rfl (PySem.W.codeRec_of KX hcd) (hb _ _ _ _ ?_);refine wpAny_newFunctionEnv_cells S.kind hkind fun env he s1 x=>?_;subst he;refine⟨lim.keeps x.toInCall.keep,codeAny_func ?_⟩;obtain⟨t,ht,hq⟩:=hbody A outer s H vs Q E (hr.deeper _) hsp;have I:Inv (lM CX P w K mg base N qual scope f cdv A outer s H E) [] (start N vs) H s1:=nq S hr.hd e0 hl r x;refine vD (ht [] s1 (start N vs) H _ I hq) (fun fl s' hs=>?_) fun e s' hs=>hs;have fin:∀{σ':St}{H':Hp}{v:V}{u:Value},Inv (lM CX P w K mg base N qual scope f cdv A outer s H E) [] σ' H' s'->RelV v u->Q v H'->CE outer P w H s Q u s':=
  fun {σ' H' v u} J rv q=>⟨v,H',J.os,J.bare,J.base,J.hok,rv,q⟩
 cases fl with
 |ret u=>obtain⟨v,σ',H',J,rv,q⟩:=hs;exact fin J rv q
 |next=>obtain⟨σ',H',J,q⟩:=hs;exact fin (v:=V.non) (u:=Value.none) J rfl q
 |brk=>obtain⟨_,_,_,q⟩:=hs;exact False.elim q
 |cont=>obtain⟨_,_,_,q⟩:=hs;exact False.elim q
section
variable{X:Cx}{x:Str}{p pos:Pos}{e:Expr}{es:List Expr}{t:TA}{id T:String}{r:List V->Hp->VK->Prop}
def tCB(r:List V->Hp->VK->Prop)(t:TA):TE:=fun σ H Q=>t σ H fun vs H1=>r vs H1 Q
theorem aM(hc:ef X (.builtin id) r)(hg:Gl X x)(hm:X.mg x=none)(hv:bootBuiltins x=some (.builtin id))(ha:PA X (e::es) t)(hn:x≠"__name__":=by decide)(hdb:(x==("__debug__":Str))=false:=by decide)
  (he:starEach (e::es) X.env=(false,eval e X.env)::starEach es X.env:=by rfl) (hpl:(backTo pos (starEach es X.env)).any (·.1)=false:=by rfl):PE X (.Call (.Name x p) (e::es) [] pos) (tCB r t):=by
 intro pins s σ H Q I h;refine wpAny_Call_Name_kw (gY I hg hm hv ?_ hn hdb);exact PyProof.Rows.callWith_builtin1 (thn (ha pos pins s σ H _ I h) fun us s1 hPz=>L2.ep3 hPz fun vs H1 I1 r1 q1=>hc pins s1 σ H1 vs us Q I1 r1 q1) he hpl
theorem cT(hc:ef X (.type T) r)(hg:Gl X x)(hm:X.mg x=none)(hv:bootBuiltins x=some (.type T))(ha:PA X (e::es) t)(hn:x≠"__name__":=by decide)(hdb:(x==("__debug__":Str))=false:=by decide)
  (he:starEach (e::es) X.env=(false,eval e X.env)::starEach es X.env:=by rfl) (hpl:(backTo pos (starEach es X.env)).any (·.1)=false:=by rfl):PE X (.Call (.Name x p) (e::es) [] pos) (tCB r t):=by
 intro pins s σ H Q I h;refine wpAny_Call_Name_kw (gY I hg hm hv ?_ hn hdb);exact PyProof.Rows.callWith_type1 (thn (ha pos pins s σ H _ I h) fun us s1 hPz=>L2.ep3 hPz fun vs H1 I1 r1 q1=>hc pins s1 σ H1 vs us Q I1 r1 q1) he hpl
end
noncomputable def ixN(n:Nat)(i:Int):Option Nat:=if 0<=i then(if i<n then some i.toNat else none)else if-(n:Int)<=i then some (i+n).toNat else none
noncomputable def atI{α:Type}(xs:List α)(i:Int):Option α:=(ixN xs.length i).bind fun j=>xs[j]?
theorem qo{n:Nat}{i:Int}{j:Nat}(h:ixN n i=some j):seqIndex? i n=some j/\j<n/\ -(n:Int)<=i/\i<n:=by
 unfold ixN at h;by_cases h0:0<=i
 ·rw[um h0]at h;by_cases h1:i<n
  ·rw[um h1]at h;have e:i.toNat=j:=vJ h;exact⟨by rw[seqIndex_of h0 h1,e],by omega,by omega,h1⟩
  ·rw[uo h1]at h;cases h
 ·rw[uo h0]at h;by_cases h1: -(n:Int)<=i
  ·rw[um h1]at h;have e:(i+n).toNat=j:=vJ h;exact⟨by rw[seqIndex_neg (by omega) h1,e],by omega,h1,by omega⟩
  ·rw[uo h1]at h;cases h
theorem mI{α:Type}{xs:List α}{i:Int}{v:α}(h:atI xs i=some v):∃j,seqIndex? i xs.length=some j/\xs[j]?=some v/\j<xs.length/\ -(xs.length:Int)<=i/\i<xs.length:=by
 unfold atI at h;cases e:ixN xs.length i with
 |none=>rw[e]at h;cases h
 |some j=>rw[e]at h;obtain⟨h1,h2,h3,h4⟩:=qo e;exact⟨j,h1,h,h2,h3,h4⟩
theorem ak{α:Type}{xs:List α}{j:Nat}{v:α}(h:xs[j]?=some v):atI xs (j:Int)=some v:=by
 have hj:j<xs.length:=(ur.mp h).1;have e:ixN xs.length (j:Int)=some j:=by unfold ixN;rw[um (by omega),um (by omega)];simp
 unfold atI;rw[e];exact h
theorem kH{α:Type}(xs:List α)(v:α):atI (xs++[v]) (-1)=some v:=by
 have hl:(xs++[v]).length=xs.length+1:=by simp
 have e:ixN (xs++[v]).length (-1)=some xs.length:=by unfold ixN;rw[hl,uo (by decide),um (by omega)];congr 1;omega
 unfold atI;rw[e];show(xs++[v])[xs.length]?=some v;simp
def qC(b:Expr):Prop:=∀o i,subscripted b false o i=operate [o,i] (getItem o i)
def IxR(X:Cx)(r:R2):Prop:=
 ∀(value slice:Expr)(pins:List (Addr×Obj))(s:Shared)(σ:St)(H:Hp)(x y:V)(v u:Value)(Q:VK),Inv X pins σ H s->RelV x v->RelV y u->r x y H Q->
  subscripted slice false v u=operate [v,u] (getItem v u)->wpAny (model X.prog X.w) X.A (subscriptTail value slice v u) (EP X pins σ Q) X.xe s
def MtR(X:Cx)(id:String)(r:V->List V->Hp->VK->Prop):Prop:=
 ∀(pins:List (Addr×Obj))(s:Shared)(σ:St)(H:Hp)(x:V)(xs:List V)(v:Value)(us:List Value)(Q:VK),Inv X pins σ H s->RelV x v->Vals xs us->r x xs H Q->
  wpAny (model X.prog X.w) X.A (call (.builtin id) (v::us)) (EP X pins σ Q) X.xe s
section
variable{X:Cx}{a b:Expr}{ta tb:TE}{pos:Pos}
theorem av{r:R2}(hr:IxR X r)(ha:PE X a ta)(hb:PE X b tb)(hs:qC b):PE X (.Subscript a b pos) (tOp r ta tb):=by intro pins s σ H Q I h;exact Subscript_ (r6 ha hb I h fun v u s2 x y H2 I2 rx ry q=>hr a b pins s2 σ H2 x y v u Q I2 rx ry q (hs _ _))
noncomputable def sN(K:Frag):R2:=fun x y H Q=>∃p xs i v,x=.ref p/\y=.int i/\SqL K H p xs/\atI xs i=some v/\Q v H
noncomputable def sM(K:Frag):R2:=fun x y H Q=>∃p xs i v,x=.ref p/\y=.int i/\SqT K H p xs/\atI xs i=some v/\Q v H
theorem aV:IxR X (sN X.K):=by
 intro value slice pins s σ H x y v u Q I rx ry h hs;obtain⟨p,xs,i,z,rfl,rfl,hq,he,q⟩:=h;cases rx;obtain⟨t,rfl⟩:=ry;obtain⟨its,r,pl,hz⟩:=I.list hq;obtain⟨j,h1,h2,h3,h4,h5⟩:=mI he;obtain⟨w,ew,rw'⟩:=r.get h2;have hl:=r.length;have hn:=lD;have fin:EP X pins σ Q w s:=⟨z,H,I,rw',q⟩;by_cases h0:0<=i
 ·have hj:i.toNat=j:=by
   rw[seqIndex_of h0 h5]at h1;exact vJ h1
  exact item_listR pl.isList h0 (by omega) (by rw[hj];simpa using ew) fin hs
 ·have hj:(i+(its.toArray.size:Int)).toNat=j:=by
   rw[seqIndex_neg (by omega) h4]at h1;rw[uC,<-hl];exact vJ h1
  exact subscriptTail_builtinR (x:=w) pl.isList.typeIs slot_list_getitem.lookup
   (wpAny_getItem_list_neg (Q:=fun r s'=>r=w/\EP X pins σ Q r s') pl.isList (by omega) (by rw[uC]<;>omega) (by omega) (by rw[hj];simpa using ew) ⟨rfl,fin⟩) hs
theorem ay:IxR X (sM X.K):=by
 intro value slice pins s σ H x y v u Q I rx ry h hs;obtain⟨p,xs,i,z,rfl,rfl,hq,he,q⟩:=h;cases rx;obtain⟨t,rfl⟩:=ry;obtain⟨its,r,pl,hz⟩:=I.tuple hq;obtain⟨j,h1,h2,h3,h4,h5⟩:=mI he;obtain⟨w,ew,rw'⟩:=r.get h2;have hl:=r.length;have hn:=lD;have fin:EP X pins σ Q w s:=⟨z,H,I,rw',q⟩;exact subscriptTail_builtinR (x:=w) pl.typeIs slot_tuple_getitem.lookup
  (getItem_tuple (j:=j) (Q:=fun r s'=>r=w/\EP X pins σ Q r s') pl (by omega) (by omega) (by rw[uC,<-hl];exact h1) (by simpa using ew) ⟨rfl,fin⟩) hs
noncomputable def gk:V->Bool
 | .non=>true
 | .bl _=>true
 | .int _=>true
 | .str _=>true
 |_=>false
noncomputable def eqV:V->V->Bool
 | .non,.non=>true
 | .bl a,.bl b=>a==b
 | .bl a,.int b=>(if a then 1 else 0)==b
 | .int a,.bl b=>a==(if b then 1 else 0)
 | .int a,.int b=>a==b
 | .str a,.str b=>a==b
 |_,_=>false
theorem rW{A:Around}{s:Shared}{y x:V}{u v:Value}(ry:RelV y u)(rx:RelV x v)(fy:gk y=true)(fx:gk x=true):SeqAt.EqAt A s u v (eqV y x):=by
 cases y with
 |non=>
  cases ry;cases x with
  |non=>cases rx;exact SeqAt.EqAt.same _
  |bl b=>cases rx;exact SeqAt.EqAt.none_bool b
  |int b=>obtain⟨t,rfl⟩:=rx;exact SeqAt.EqAt.none_int b t
  |str b=>obtain⟨t,rfl⟩:=rx;exact SeqAt.EqAt.none_str b t
  |_=>exact absurd (show false=true from fx) uz
 |bl a=>
  cases ry;cases x with
  |non=>cases rx;exact SeqAt.EqAt.bool_none a
  |bl b=>cases rx;exact SeqAt.EqAt.bool_bool a b
  |int b=>obtain⟨t,rfl⟩:=rx;exact SeqAt.EqAt.bool_int a b t
  |str b=>obtain⟨t,rfl⟩:=rx;exact SeqAt.EqAt.bool_str a b t
  |_=>exact absurd (show false=true from fx) uz
 |int a=>
  obtain⟨t',rfl⟩:=ry;cases x with
  |non=>cases rx;exact SeqAt.EqAt.int_none a t'
  |bl b=>cases rx;exact SeqAt.EqAt.int_bool a t' b
  |int b=>obtain⟨t,rfl⟩:=rx;exact SeqAt.EqAt.int_int a t' b t
  |str b=>obtain⟨t,rfl⟩:=rx;exact SeqAt.EqAt.int_str a t' b t
  |_=>exact absurd (show false=true from fx) uz
 |str a=>
  obtain⟨t',rfl⟩:=ry;cases x with
  |non=>cases rx;exact SeqAt.EqAt.str_none a t'
  |bl b=>cases rx;exact SeqAt.EqAt.str_bool a t' b
  |int b=>obtain⟨t,rfl⟩:=rx;exact SeqAt.EqAt.str_int a t' b t
  |str b=>obtain⟨t,rfl⟩:=rx;exact SeqAt.EqAt.str_str a t' b t
  |_=>exact absurd (show false=true from fx) uz
 |_=>exact absurd (show false=true from fy) uz
noncomputable def eqU(x:V)(u:Value):Bool:=match u with
 | .none=>eqV .non x
 | .bool b=>eqV (.bl b) x
 | .int i _=>eqV (.int i) x
 | .str z _=>eqV (.str z) x
 |_=>false
theorem oO{x y:V}{u:Value}(r:RelV y u)(f:gk y=true):eqU x u=eqV y x:=by
 cases y with
 |non=>cases r;rfl
 |bl b=>cases r;rfl
 |int i=>obtain⟨t,rfl⟩:=r;rfl
 |str z=>obtain⟨t,rfl⟩:=r;rfl
 |_=>exact absurd (show false=true from f) uz
theorem jC{x:V}:∀{xs:List V}{us:List Value},Vals xs us->xs.all gk=true->us.any (eqU x)=xs.any fun y=>eqV y x
 |_,_,.nil,_=>rfl
 |y::xs,u::us,.cons r t,f=>by rw[List.all_cons,vo]at f;rw[List.any_cons,List.any_cons,oO r f.1,jC t f.2]
theorem gW{A:Around}{s:Shared}{x:V}{v:Value}(rx:RelV x v)(fx:gk x=true):∀{xs:List V}{us:List Value},Vals xs us->xs.all gk=true->∀u∈us,SeqAt.EqAt A s u v (eqU x u)
 |_,_,.nil,_=>fun u hu=>by cases hu
 |y::xs,u::us,.cons r t,f=>fun u' hu=>by
  rw[List.all_cons,vo]at f;rcases uY.mp hu with rfl|hu
  ·rw[oO r f.1];exact rW r rx f.1 fx
  ·exact gW rx fx t f.2 u' hu
noncomputable def inV(x:V)(xs:List V):Bool:=xs.any fun y=>eqV y x
noncomputable def rIn(K:Frag)(neg:Bool):R2:=fun x y H Q=>∃p xs,y=.ref p/\(SqL K H p xs\/SqT K H p xs)/\gk x=true/\xs.all gk=true/\Q (.bl (if neg then !inV x xs else inV x xs)) H
theorem iJ:OpR X (compareOp .In) (rIn X.K false):=by
 intro pins s σ H x y v u Q I rx ry h;obtain⟨p,xs,rfl,hq,fx,fs,q⟩:=h;cases ry;rcases hq with hq|hq
 ·obtain⟨its,r,pl,hz⟩:=I.list hq;refine SeqAt.in_listAt (eqU x) pl.isList (fun w hw=>gW rx fx r fs w (by simpa using hw)) ⟨.bl _,H,I,rfl,?_⟩;rw[show its.toArray.any (eqU x)=its.any (eqU x) by simp,jC r fs];exact q
 ·obtain⟨its,r,pl,hz⟩:=I.tuple hq;refine SeqAt.in_tupleAt (eqU x) pl (fun w hw=>gW rx fx r fs w (by simpa using hw)) ⟨.bl _,H,I,rfl,?_⟩;rw[show its.toArray.any (eqU x)=its.any (eqU x) by simp,jC r fs];exact q
theorem a7:ef X (.builtin "len") (fun xs H Q=>∃p ys,xs=[.ref p]/\(SqL X.K H p ys\/SqT X.K H p ys)/\Q (.int ys.length) H):=by
 intro pins s σ H xs us Q I r h;obtain⟨p,ys,rfl,hq,q⟩:=h;obtain⟨u,rfl,rx⟩:=vals1 r;cases rx;have hn:=lD;rcases hq with hq|hq
 ·obtain⟨its,r',pl,hz⟩:=I.list hq;have hlen:=r'.length;exact Calls.call_len_list pl.isList (by simp only[uC]<;>omega) ⟨.int ys.length,H,I.tok _,⟨s.toks+1,by rw[uC,hlen]⟩,q⟩
 ·obtain⟨its,r',pl,hz⟩:=I.tuple hq;have hlen:=r'.length;exact len_tuple pl (by simp only[uC]<;>omega) ⟨.int ys.length,H,I.tok _,⟨s.toks+1,by rw[uC,hlen]⟩,q⟩
theorem jA:ef X (.type "list") (fun xs H Q=>∃p ys,xs=[.ref p]/\(SqL X.K H p ys\/SqT X.K H p ys)/\∀l,H l=none->Q (.ref l) (upd H l (.lst ys))):=by
 intro pins s σ H xs us Q I r h;obtain⟨p,ys,rfl,hq,q⟩:=h;obtain⟨u,rfl,rx⟩:=vals1 r;cases rx;have fin:∀(its:List Value),Vals ys its->ys.length<=sizeLine->∀(h':Heap)(c':Nat),(∀b o',s.heap.get? b=some o'->h'.get? b=some o')->
   h'.get? s.heap.objs.size=some {cls:=.type "list",dict:=none,data:=.seq its.toArray c',slots:= #[]}->EP X pins σ Q (.ref s.heap.objs.size) {s with heap:=h'}:=fun its r' hz h' c' kp e=>
  ⟨.ref s.heap.objs.size,_,I.laid (t':=s.toks) kp (uA _) (show bQ X.prog X.w _ h' _ (.lst ys)from⟨hz,its,c',r',e⟩),rfl,q _ (I.hok.fresh (uA _))⟩
 rcases hq with hq|hq
 ·obtain⟨its,r',pl,hz⟩:=I.list hq;have hlen:=r'.length;obtain⟨o,ho,hc,n,hd⟩:=pl.isList;exact call_list_seq p (.inl rfl) ho hc hd (fun h' c' kp e=>fin its r' hz h' c' kp e) (by simp only[uC]<;>omega)
 ·obtain⟨its,r',pl,hz⟩:=I.tuple hq;have hlen:=r'.length;obtain⟨o,ho,hc,n,hd⟩:=pl;exact call_list_seq p (.inr rfl) ho hc hd (fun h' c' kp e=>fin its r' hz h' c' kp e) (by simp only[uC]<;>omega)
def tyV(K:Frag)(T:String)(x:V)(H:Hp):Prop:=match x with
 | .str _=>T="str"
 | .int _=>T="int"
 | .ref p=>(T="list"/\∃xs,SqL K H p xs)\/(T="tuple"/\∃o,K.lookup p=some o/\o.cls=.type "tuple"/\o.dict=none)\/
  (T="dict"/\((∃kvs,H p=some (.dK kvs))\/∃kvs,H p=some (.dT kvs)))\/(T="set"/\∃S n,H p=some (.set S n))
 |_=>False
theorem nH{pins:List (Addr×Obj)}{σ:St}{H:Hp}{s:Shared}{T:String}{x:V}{v:Value}(I:Inv X pins σ H s)(r:RelV x v)(ty:tyV X.K T x H):
  s.TypeIs v T/\∀a,v=.ref a->∃ob,s.heap.get? a=some ob/\ob.dict=none:=by
 cases x with
 |str z=>obtain⟨t,rfl⟩:=r;cases (show T="str" from ty);exact⟨typeIs_str s z t,fun _ e=>nomatch e⟩
 |int i=>obtain⟨t,rfl⟩:=r;cases (show T="int" from ty);exact⟨typeIs_int s i t,fun _ e=>nomatch e⟩
 |ref p=>
  cases r;rcases ty with⟨rfl,xs,hq⟩|⟨rfl,o,hk,hc,hd⟩|⟨rfl,hk⟩|⟨rfl,S,n,hk⟩
  ·obtain⟨its,_,pl,_⟩:=I.list hq;refine⟨pl.isList.typeIs,fun a e=>?_⟩;cases e;obtain⟨o,n,e,c,hd,_⟩:=pl;exact⟨o,e,hd⟩
  ·refine⟨⟨o,I.kIn p o hk,hc⟩,fun a e=>?_⟩;cases e;exact⟨o,I.kIn _ o hk,hd⟩
  ·have z:∃o,s.heap.get? p=some o/\o.ExactDict:=by
    rcases hk with⟨kvs,hk⟩|⟨kvs,hk⟩
    ·obtain⟨_,_,_,_,o,_,_,e,ex,_⟩:=I.hok p _ hk;exact⟨o,e,ex⟩
    ·obtain⟨_,_,_,_,o,_,_,e,ex,_⟩:=I.hok p _ hk;exact⟨o,e,ex⟩
   obtain⟨o,e,ex⟩:=z;refine⟨⟨o,e,ex.1⟩,fun a e2=>?_⟩;cases e2;exact⟨o,e,ex.2.1⟩
  ·obtain⟨o,_,_,_,e,ex,_⟩:=I.hok p _ hk;refine⟨⟨o,e,ex.1⟩,fun a e2=>?_⟩;cases e2;exact⟨o,e,ex.2.1⟩
 |_=>exact False.elim ty
def tV(K:Frag)(T:String)(r:V->List V->Hp->VK->Prop)(to:TE):TE:=fun σ H Q=>to σ H fun x H1=>tyV K T x H1/\r x [] H1 Q
def tBM(K:Frag)(T:String)(r:V->List V->Hp->VK->Prop)(to:TE)(t:TA):TE:=fun σ H Q=>to σ H fun x H1=>tyV K T x H1/\t σ H1 fun xs H2=>r x xs H2 Q
variable{o e:Expr}{es:List Expr}{to:TE}{t:TA}{name:Str}{apos cpos:Pos}{T id:String}{r:V->List V->Hp->VK->Prop}
theorem rp(pa:PlainAttrs T)(slot:Slot T name id)(hty:typeOf (.builtin id)=pure (.type "method_descriptor"))(hm:MtR X id r)(ho:PE X o to)
  (hbase:attributeBase o name X.env (eval o X.env)=eval o X.env:=by rfl) (hline:(apos.endLine==cpos.line)=true:=by rfl):PE X (.Call (.Attribute o name apos) [] [] cpos) (tV X.K T r to):=by
 intro pins s σ H Q I h;refine wpAny_Call_method0_late hbase hline (thn (ho pins s σ H _ I h) fun v s1 hPz=>?_);obtain⟨x,H1,I1,r1,ty,q1⟩:=hPz;obtain⟨h1,h2⟩:=nH I1 r1 ty;exact⟨T,id,pa,slot,hty,h1,h2,Calls.callWith_builtin rfl (PySem.evalArgs_none (hm pins s1 σ H1 x [] v [] Q I1 r1 .nil q1))⟩
theorem gj(pa:PlainAttrs T)(slot:Slot T name id)(hty:typeOf (.builtin id)=pure (.type "method_descriptor"))(hm:MtR X id r)(ho:PE X o to)(ha:PA X (e::es) t)
  (hbase:attributeBase o name X.env (eval o X.env)=eval o X.env:=by rfl)
  (hfew:((backTo cpos (starEach (e::es) X.env)).all (fun x=> !x.1)&&(backToKw cpos (keywordEach [] X.env)).all (fun x=>x.1.isSome)
   &&decide ((e::es).length+([]:List Keyword).length+(if([]:List Keyword).isEmpty then 0 else 1)<30))=true:=by rfl)
  (hline:(apos.endLine==cpos.line)=true:=by rfl) (hs:starEach (e::es) X.env=(false,eval e X.env)::starEach es X.env:=by rfl) (hplain:(backTo cpos (starEach es X.env)).any (·.1)=false:=by rfl):
  PE X (.Call (.Attribute o name apos) (e::es) [] cpos) (tBM X.K T r to t):=by
 intro pins s σ H Q I h;refine wpAny_Call_method_late hbase hfew hline rfl (thn (ho pins s σ H _ I h) fun v s1 hPz=>?_);obtain⟨x,H1,I1,r1,ty,q1⟩:=hPz;obtain⟨h1,h2⟩:=nH I1 r1 ty;refine⟨T,id,pa,slot,hty,h1,h2,?_⟩;have hA:=ha cpos pins s1 σ H1 _ I1 q1;rw[hs]at hA ⊢;refine Calls.callWith_builtin (by show(false||(backTo cpos (starEach es X.env)).any (·.1))=false;rw[hplain]<;>rfl) (Calls.evalArgs_plain ?_);exact thn hA fun us s2 hPz=>L2.ep3 hPz fun vs H2 I2 r2 q2=>hm pins s2 σ H2 x vs v us Q I2 r1 r2 q2
end
def MtM(X:Cx)(id:String)(r:V->List V->Hp->VK->Prop):Prop:=
 ∀(pins:List (Addr×Obj))(s:Shared)(σ:St)(H:Hp)(x:V)(xs:List V)(v:Value)(us:List Value)(Q:VK),Inv X pins σ H s->RelV x v->Vals xs us->r x xs H Q->
  wpAny (model X.prog X.w) X.A (call (.builtin id) (v::us)) (EP X pins σ Q) X.xe s
theorem Vals.one:∀{x:V}{us:List Value},Vals [x] us->∃u,us=[u]/\RelV x u
 |_,_,.cons r .nil=>⟨_,rfl,r⟩
theorem Vals.zero:∀{us:List Value},Vals [] us->us=[]
 |_,.nil=>rfl
section
variable{X:Cx}{pins:List (Addr×Obj)}{σ:St}{H:Hp}{s:Shared}{l b:Addr}{xs ys zs:List V}
theorem Inv.lset{its its':List Value}{n:Nat}{f:Array Value->Array Value}{t':Nat}(I:Inv X pins σ H s)(hH:H l=some (.lst xs))
  (e:s.heap.get? l=some {cls:=.type "list",data:=.seq its.toArray n}) (hf:f its.toArray=its'.toArray) (hv:Vals ys its') (hz:ys.length<=sizeLine):
  Inv X pins σ (upd H l (.lst ys)) {s with heap:=s.heap.update l (Obj.mapSeq f),toks:=t'}:=by
 have q:=PySem.IsL.update e f;rw[hf]at q;refine I.write (x:=l) (e:=l) (by rw[hH];exact trivial) (.inl rfl) (fun b' u hb hu=>(vp s.heap (Obj.mapSeq f) (Ne.symm hb)).trans hu) ⟨_,q⟩ ?_;exact⟨hz,its',_,hv,q⟩
theorem Inv.lnew{its:List Value}{t':Nat}(I:Inv X pins σ H s)(hv:Vals ys its)(hz:ys.length<=sizeLine):
  Inv X pins σ (upd H s.heap.objs.size (.lst ys)) {s with heap:=s.heap.push {cls:=.type "list",data:=.seq its.toArray},toks:=t'}:=
 I.laid (fun _ _ q=>uh _ q) (uA _) ⟨hz,its,0,hv,uK _ rfl⟩
theorem Inv.fresh(I:Inv X pins σ H s):H s.heap.objs.size=none:=I.hok.fresh (uA _)
theorem Inv.lstM(I:Inv X pins σ H s)(hH:H l=some (.lst xs)):xs.length<=sizeLine/\∃(its:List Value)(n:Nat),Vals xs its/\xs.length=its.length/\s.heap.get? l=some {cls:=.type "list",data:=.seq its.toArray n}:=by obtain⟨z,its,n,r,e⟩:=I.hok l _ hH;exact⟨z,its,n,r,r.length,e⟩
end
section
variable{X:Cx}
def pL:V->List V->Hp->VK->Prop:=fun x vs H Q=>∃l xs y,x=.ref l/\vs=[y]/\H l=some (.lst xs)/\xs.length<sizeLine/\Q .non (upd H l (.lst (xs++[y])))
theorem b7:MtM X "list.append" pL:=by intro pins s σ H x vs v us Q I rx rv h;obtain⟨l,xs,y,rfl,rfl,hH,hz,q⟩:=h;cases rx;obtain⟨u,rfl,ru⟩:=rv.one;obtain⟨z,its,n,r,hl,e⟩:=I.lstM hH;refine call_meets F.slot_list_append ⟨_,e,rfl⟩ F.entry_list_append (F.args_list_append_2 _ _) (PySem.list_append l its.toArray n u (by rw[uC];omega)) ⟨e,?_⟩;refine⟨.non,_,I.lset (its':=its++[u]) hH e (by simp) (r.append (.cons ru .nil)) ?_,rfl,q⟩;rw[uV,List.length_singleton];omega
noncomputable def t5:R2:=fun x y H Q=>∃l b xs zs,x=.ref l/\y=.ref b/\H l=some (.lst xs)/\H b=some (.lst zs)/\xs.length+zs.length<=sizeLine/\∀p,H p=none->Q (.ref p) (upd H p (.lst (xs++zs)))
theorem rB:OpR X (binaryOp .Add) t5:=by
 intro pins s σ H x y v u Q I rx ry h;obtain⟨l,b,xs,zs,rfl,rfl,hH,hB,hz,q⟩:=h;cases rx;cases ry;obtain⟨z,its,n,r,hl,e⟩:=I.lstM hH;obtain⟨z2,its2,n2,r2,hl2,e2⟩:=I.lstM hB;refine PySem.P.add_list e e2 ?_ (by rw[uC,uC];omega);have ea:its.toArray++its2.toArray=(its++its2).toArray:=by simp
 rw[ea];exact⟨.ref _,_,I.lnew (t':=s.toks) (r.append r2) (by rw[uV];omega),rfl,q _ I.fresh⟩
end
end L2
namespace Att
open PySem PySem.W PySem.Calls PyProof.Rows
theorem gq{P:Params}{h:Heap}:∀(ns:List Int)(vs:List Value),WellAll P h vs (ns.map WData.int)->IntsAre vs ns:=by
 intro ns
 induction ns with
 |nil=>intro vs w;rw[List.map_nil]at w;cases w;exact .nil
 |cons n ns ih=>
  intro vs w;rw[vi]at w;cases w with
  |cons a b=>cases a;exact .cons _ _ (ih _ b)
theorem mQ{l:OpenLaw}{n:Nat}(hn:l.most=some n){P:Params}{h:Heap}{args:List WData}{vals:List Value}
  (hpre:l.row.toRowW.claim.pre args=true) (hwl:WellAll P h vals args):
  ∃a vs ns,vals=[Value.ref a]/\args=[WData.list (ns.map WData.int)]/\h.get? a=some {cls:=.type "list",data:=.seq vs.toArray}/\IntsAre vs ns/\ns.length<=n:=by
 have hsh:WShape.hasAll [] args [.list .int]=true:=(pre_splitW hpre).1;have hc:l.pre.holds [] {args:=args}=true:=(pre_splitW hpre).2;obtain⟨d,r,rfl,h1,h2⟩:=hasAllW_cons hsh;obtain rfl:=hasAllW_nil h2;obtain⟨xs,rfl,h3⟩:=hasW_list h1;obtain⟨ns,rfl⟩:=items_int h3;have hlen:ns.length<=n:=by
  unfold OpenLaw.pre at hc;have h4:(WTm.not (.lt (.lit (.int (n:Int))) (.len (.arg 0)))).holds [] {args:=[.list (ns.map .int)]}=true:=by have h4:=(holds_andW hc).1;rw[hn]at h4;exact h4
  have h5:=condW_of h4 (w_not (w_lt w_lit (w_len_list (w_arg rfl))));rw[uj]at h5;refine Nat.le_of_not_lt fun q=>?_;have q':(n:Int)<((ns.length:Nat):Int):=by omega
  first
   |(rw[uD q']at h5;exact absurd h5 (by decide))
   |(simp at h5;omega)
 cases hwl with
 |cons w1 w2=>
  cases w2;cases w1 with
  |list ho hall=>exact⟨_,_,ns,rfl,rfl,ho,gq ns _ hall,hlen⟩
theorem m4(l:OpenLaw)(args:List WData):l.row.toRowW.claim.post args (.bool true) args=true:=
 postW_of (r:=l.row.toRowW) (X:=(true==true))
  (show WShape.has [] (.bool true) .bool=true by first|rfl|decide|simp[WShape.has,WShape.arms,WShape.armsAll])
  (show(WTm.eq .res (.lit (.bool true))).value [] {args:=args,res:=some (.bool true),after:=args}=some (.bool (true==true))from w_eq_bool (w_res rfl) w_lit) rfl
theorem kG{l:OpenLaw}{n:Nat}{q:Program}{loose:List Str}{XP:(Str->Option Value)->Heap->Prop}{YP:World->Heap->Prop}{d:DefRec}
  (hn:l.most=some n) (hdf:d.params.defaults=[])
  (call:∀(w:World)(s₀ s₁:Shared)(mg mb:Str->Option Value)(fa:Addr)(o:Obj)(pm cd doc:Value)(a:Addr)(vs:List Value)(ns:List Int),
   Ground q loose [] XP w s₀ mg mb s₁.heap->YP w s₁.heap->
   s₁.heap.get? fa=some o->o.data=.func (docDef d.name d.params d.body d.scope pm cd doc)->s₁.heap.CodeRec cd d.name->mg d.name=some (.ref fa)->
   s₁.heap.get? a=some {cls:=.type "list",data:=.seq vs.toArray}->IntsAre vs ns->ns.length<=n->s₁.gens= #[]->
   codeAny (model l.prog w) callerA (.call (.ref fa) ⟨[.ref a],[]⟩) (fun r s'=>r=.ok (.ret (.bool true))/\OldK s₁.heap s'.heap/\s'.os=s₁.os/\AllBare s'.gens) s₁):
  WalkO q loose XP YP l.row.toRowW d [] (fun f vs=>PySem.call f vs):=by
 intro w s₀ s₁ mg mb G Y fa o pm cd doc dV kV ho hd hcd hD hmg hg args vals as hpre hlay hrd hwl hlo;obtain rfl:dV=.none:=Dflts.none hD hdf;obtain rfl:kV=.none:=Dflts.noKw hD;obtain⟨a,vs,ns,rfl,rfl,hobj,hints,hlen⟩:=mQ hn hpre hwl;refine enter_call (codeAny_mono (call w s₀ s₁ mg mb fa o pm cd doc a vs ns G Y ho (fd_plain hd) hcd hmg hobj hints hlen hg) fun r s' hq=>?_);obtain⟨rfl,h2,h3,h4⟩:=hq;exact⟨.inl ⟨.bool true,.bool true,[],rfl,fun _=>rfl,.bool true,m4 l _,fun _=>⟨List.Pairwise.nil,fun _ hm=>(nomatch hm)⟩⟩,h2,h3,h4⟩
end Att
namespace L2
open PySem PySem.Spec PyProof.Rows
theorem mK{vs:List Value}{ns:List Int}(hI:IntsAre vs ns):Vals (ns.map V.int) vs:=by
 induction hI with
 |nil=>exact .nil
 |cons n t h ih=>exact .cons ⟨t,rfl⟩ (ih)
def qD(H:Hp):Prop:=∀b,H b=none\/∃o xs,H b=some (.frz o (.lst xs))
theorem oB{P:Program}{w:World}{K:Frag}{mg mb:Str->Option Value}{CX:CXT}{k:Nat}{fa a:Addr}{fd:FuncData}{x:Str}{sp:Sp}{s₁:Shared}{vs:List Value}{ns:List Int}
  (KX:K.In s₁.heap) (hns:s₁.heap.Ns mainGlobals mg) (hb:s₁.heap.Ns builtinsNs mb) (hbb:∀x:Str,x≠"__name__"->mb x=bootBuiltins x) (hlim:s₁.heap.NoLimit) (hg:s₁.gens= #[])
  (ha:s₁.heap.get? a=some {cls:=.type "list",data:=.seq vs.toArray}) (hi:IntsAre vs ns) (hl:ns.length<=sizeLine) (hr:dF k callerA)
  (F:∀base:Heap,K.In base->base.Ns mainGlobals mg->jF P w K mg base CX k fa fd [x] sp) (hbind:∀(s:Shared)(u:Value),BindsTo s fd ⟨[u],[]⟩ [(x,u)])
  (hsp:∀H:Hp,qD H->SqL K H a (ns.map V.int)->sp [.ref a] H (fun v _=>v=.bl true) fun _ _ _=>False)
  (hCX:∀H e s',CX [] H s₁ (fun _ _ _=>False) e s'->False):
  codeAny (model P w) callerA (.call (.ref fa) ⟨[.ref a],[]⟩) (fun r s'=>r=.ok (.ret (.bool true))/\OldK s₁.heap s'.heap/\s'.os=s₁.os/\AllBare s'.gens) s₁:=by
 have rv:=mK hi;have lenV:=hi.length;have core:∀H:Hp,qD H->SqL K H a (ns.map V.int)->HOk P w H s₁.heap->(∀b,H b≠none->b=a)->(H a≠none->K.lookup a=none)->
   codeAny (model P w) callerA (.call (.ref fa) ⟨[.ref a],[]⟩) (fun r s'=>r=.ok (.ret (.bool true))/\OldK s₁.heap s'.heap/\s'.os=s₁.os/\AllBare s'.gens) s₁:=by
  intro H hO hS hok hA hK;have base_of:∀{b:Addr}{o:Obj},s₁.heap.get? b=some o->H b=none->(jr s₁.heap H).get? b=some o:=fun e n=>oJ e n;have noA:∀{b:Addr}{o:Obj}{es:Array DictEntry}{ep:Nat},s₁.heap.get? b=some o->o.data=.dict es ep->H b=none:=fun {b o es ep} e d=>by
   cases q:H b with
   |none=>rfl
   |some u=>have e':b=a:=hA b (by rw[q];simp);subst e';rw[ha]at e;cases e;have d':Data.seq vs.toArray _=Data.dict es ep:=d;cases d'
  have nsK:∀{b:Addr}{m:Str->Option Value},s₁.heap.Ns b m->(jr s₁.heap H).Ns b m:=fun {b m} ⟨o,es,ep,e,d,r⟩=>⟨o,es,ep,base_of e (noA e d),d,r⟩
  have hKb:K.In (jr s₁.heap H):=fun b o e=>base_of (KX b o e) (by
   cases q:H b with
   |none=>rfl
   |some u=>
    have e':b=a:=hA b (by rw[q];simp);subst e'
    rw[hK (by rw[q];simp)]at e;cases e)
  have hM:Mod K mg (jr s₁.heap H):=⟨hKb,nsK hns,⟨mb,nsK hb,hbb⟩,let ⟨mc,h1,h2⟩:=hlim;⟨mc,nsK h1,h2⟩⟩;have e0:qG P w K mg (jr s₁.heap H) callerA [] s₁ H:=⟨rfl,hM,fun b o e=>p5 e,Nat.le_of_eq (nu _ _),trivial,fun b hb=>absurd (show b∈([]:List Addr)from hb) (by simp),hok,.of_eq hg⟩;refine codeAny_mono ((F _ hKb (nsK hns)).run callerA [] s₁ H ⟨[.ref a],[]⟩ [.ref a] [.ref a] _ _ hr e0 (hbind s₁ (.ref a)) (.cons rfl .nil) (hsp H hO hS)) fun r s' h=>?_;cases r with
  |error e=>exact(hCX H e s' h).elim
  |ok fl=>
   cases fl with
   |next=>exact False.elim h
   |brk=>exact False.elim h
   |cont=>exact False.elim h
   |ret u=>
    obtain⟨v,H',os,bare,un,hok',r',q⟩:=h;have q':v=.bl true:=q;subst q';obtain rfl:u=Value.bool true:=r';refine⟨rfl,OldK.of_keep fun b o e=>?_,os,bare⟩;cases q:H b with
    |none=>exact un.keep b o e q (by intro z;exact absurd (show b∈([]:List Addr)from z) (by simp)) (by simp)
    |some u=>
     rcases hO b with z|⟨ob,xs,z⟩
     ·rw[q]at z;cases z
     ·have z2:=un.frzs b ob _ z;obtain⟨e1,_⟩:=hok b _ z;obtain⟨e2,_⟩:=hok' b _ z2;rw[e]at e1;cases e1;exact e2
 cases hk:K.lookup a with
 |some o=>have e:=KX a o hk;rw[ha]at e;cases e;refine core (fun _=>none) (fun _=>.inl rfl) (.inr ⟨_,vs.toArray,_,hk,rfl,rfl,rfl,by rw[uC,lenV];exact hl,by simpa using rv⟩) (fun b u z=>by have z':(none:Option HO)=some u:=z;cases z') (fun b z=>absurd rfl z) fun z=>absurd rfl z
 |none=>
  refine core (fun b=>if b=a then some (.frz {cls:=.type "list",data:=.seq vs.toArray} (.lst (ns.map V.int)))else none) (fun b=>?_) (.inl (.inr ⟨{cls:=.type "list",data:=.seq vs.toArray},um rfl⟩)) (fun b u z=>?_) (fun b z=>?_) fun _=>hk
  ·by_cases hb:b=a
   ·exact .inr ⟨_,_,um hb⟩
   ·exact .inl (uo hb)
  ·by_cases hb:b=a
   ·have z':=(um hb).symm.trans z;cases z';subst hb;exact⟨ha,by rw[uj];exact hl,vs,_,rv,ha⟩
   ·have z':=(uo hb).symm.trans z;cases z'
  ·by_cases hb:b=a
   ·exact hb
   ·exact absurd (uo hb) z
noncomputable abbrev KOf{K:Frag}{h:Heap}(_:K.In h):Frag:=K
theorem pB{l:PySem.W.OpenLaw}{n k:Nat}{q:Program}{loose:List Str}{XP:(Str->Option Value)->Heap->Prop}{YP:World->Heap->Prop}{d:DefRec}{K:Params->Frag}{CX:World->CXT}{sp:World->Sp}{x:Str}
  (hn:l.most=some n) (hn2:n<=sizeLine) (hdf:d.params.defaults=[]) (hr:dF k callerA)
  (hY:∀(w:World)(h:Heap),YP w h->(K w.params).In h)
  (F:∀(w:World)(mg:Str->Option Value)(fa:Addr)(h:Heap),(K w.params).In h->h.Ns mainGlobals mg->mg d.name=some (.ref fa)->
   ∃fd:FuncData,(∀(s:Shared)(u:Value),BindsTo s fd ⟨[u],[]⟩ [(x,u)])/\
    ∀base:Heap,(K w.params).In base->base.Ns mainGlobals mg->jF l.prog w (K w.params) mg base (CX w) k fa fd [x] (sp w))
  (hsp:∀(w:World)(H:Hp)(a:Addr)(ns:List Int),ns.length<=n->qD H->SqL (K w.params) H a (ns.map V.int)->sp w [.ref a] H (fun v _=>v=.bl true) fun _ _ _=>False)
  (hCX:∀(w:World)(H:Hp)(s:Shared)(e:Value)(s':Shared),CX w [] H s (fun _ _ _=>False) e s'->False):
  PySem.W.WalkO q loose XP YP l.row.toRowW d [] (fun f vs=>PySem.call f vs):=by
 refine Att.kG hn hdf fun w s₀ s₁ mg mb fa o pm cd doc a vs ns G Y ho hd hcd hmg hobj hints hlen hg=>?_;have KX:=hY w _ Y;obtain⟨fd,hb,hF⟩:=F w mg fa _ KX G.T.g hmg;exact oB KX G.T.g G.T.b G.T.builtins G.T.nolimit hg hobj hints (vS hlen hn2) hr hF hb (fun H hO hS=>hsp w H a ns hlen hO hS) fun H e s'=>hCX w H s₁ e s'
theorem nF{l:PySem.W.OpenLaw}{n k:Nat}{q:Program}{loose:List Str}{XP:(Str->Option Value)->Heap->Prop}{YP:World->Heap->Prop}{d:DefRec}{K:Params->Frag}{CX:CXT}{sp:Frag->Sp}{x:Str}
  (hn:l.most=some n) (hn2:n<=sizeLine) (hdf:d.params.defaults=[]) (hr:dF k callerA)
  (hY:∀(w:World)(h:Heap),YP w h->(K w.params).In h)
  (F:∀(w:World)(mg:Str->Option Value)(fa:Addr)(h:Heap),(K w.params).In h->h.Ns mainGlobals mg->mg d.name=some (.ref fa)->
   ∃fd:FuncData,(∀(s:Shared)(u:Value),BindsTo s fd ⟨[u],[]⟩ [(x,u)])/\
    ∀base:Heap,(K w.params).In base->base.Ns mainGlobals mg->jF l.prog w (K w.params) mg base CX k fa fd [x] (sp (K w.params)))
  (hsp:∀(K:Frag)(H:Hp)(a:Addr)(ns:List Int),ns.length<=n->qD H->SqL K H a (ns.map V.int)->sp K [.ref a] H (fun v _=>v=.bl true) fun _ _ _=>False)
  (hCX:∀(H:Hp)(s:Shared)(e:Value)(s':Shared),CX [] H s (fun _ _ _=>False) e s'->False):
  PySem.W.WalkO q loose XP YP l.row.toRowW d [] (fun f vs=>PySem.call f vs):=
 pB (K:=K) (CX:=fun _=>CX) (sp:=fun w=>sp (K w.params)) hn hn2 hdf hr hY F (fun w H a ns h1 h2 h3=>hsp (K w.params) H a ns h1 h2 h3) fun _ H s e s'=>hCX H s e s'
noncomputable def dJ(s:Stmt):Arguments:=match s with
 | .FunctionDef _ a _ _ _ _ _ _ _ _=>a
 |_=>{posonlyargs:=[],args:=[],vararg:=none,kwonlyargs:=[],kw_defaults:=[],kwarg:=none,defaults:=[]}
noncomputable def cO(s:Stmt):List Stmt:=match s with
 | .FunctionDef _ _ b _ _ _ _ _ _ _=>b
 |_=>[]
noncomputable def au(s:Stmt):Scope:=match s with
 | .FunctionDef _ _ _ _ _ _ sc _ _ _=>sc
 |_=>{kind:=.function,names:=[],isGenerator:=false,isCoroutine:=false}
noncomputable abbrev CX0:CXT:=fun _ _ _ _ _ _=>False
noncomputable abbrev E0:XK:=fun _ _ _=>False
theorem sQ{X:Cx}:Passes CX0 X E0:=fun _ _ _ _ _ _ _ h=>h.elim
structure Fun(K:Frag)(x qual:Str)(st:Stmt)(f:Addr)(fd:FuncData):Prop where
 ex:∃(oc:Value)(od:Option Addr)(kV doc pm:Value)(an:Option Addr)(cdv ct:Value)(osl:Array (Option Value)),
  fd=fnOf x qual (dJ st) (cO st) (au st) .none kV doc pm an cdv ct/\K.lookup f=some ⟨oc,od,.func fd,osl⟩/\codeIn K cdv qual=true
 kp:keepIn K (.ref f)=true
section
variable{P:Program}{w:World}{K:Frag}{mg:Str->Option Value}{base:Heap}
theorem Fun.ok{x qual:Str}{st:Stmt}{f:Addr}{fd:FuncData}{N ps:List Str}{k:Nat}{sp:Sp}(F:Fun K x qual st f fd)(S:aE N ps (au st))(len:∀vs H Q E,sp vs H Q E->vs.length=ps.length)
  (hbody:∀(cdv:Value)(A:Around)(outer:List Env)(s:Shared)(H:Hp)(vs:List V)(Q:VK)(E:XK),dF k (A.deeper (envOfC qual (au st) s.heap.objs.size f cdv))->sp vs H Q E->
   ∃t,PSs (lM CX0 P w K mg base N qual (au st) f cdv A outer s H E).nox (cO st) t/\t {nx:=fun _ H'=>Q .non H',rt:=Q} (start N vs) H):jF P w K mg base CX0 (k+1) f fd ps sp:=by
 obtain⟨oc,od,kV,doc,pm,an,cdv,ct,osl,rfl,lk,hcd⟩:=F.ex;refine tE lk hcd S len fun A outer s H vs Q E hr hsp=>?_;obtain⟨t,h,q⟩:=hbody cdv A outer s H vs Q E hr hsp;exact⟨t,h.nox,q⟩
theorem Fun.binds{x qual:Str}{st:Stmt}{f:Addr}{fd:FuncData}{ps:List Str}(F:Fun K x qual st f fd)
  (h:∀(kV doc pm:Value)(an:Option Addr)(cdv ct:Value)(us:List Value),us.length=ps.length->bindArgs (fnOf x qual (dJ st) (cO st) (au st) .none kV doc pm an cdv ct) ⟨us,[]⟩=pure (ps.zip us)):Binds K fd ps []:=by
 obtain⟨oc,od,kV,doc,pm,an,cdv,ct,osl,rfl,lk,hcd⟩:=F.ex;exact .all (h kV doc pm an cdv ct)
theorem oM{x qual:Str}{st:Stmt}{f:Addr}{oc:Value}{od an:Option Addr}{osl:Array (Option Value)}{kV doc pm cdv ct:Value}(l:K.lookup f=some ⟨oc,od,.func (fnOf x qual (dJ st) (cO st) (au st) .none kV doc pm an cdv ct),osl⟩)
 (c:codeIn K cdv qual=true) (k:keepIn K (.ref f)=true):Fun K x qual st f (fnOf x qual (dJ st) (cO st) (au st) .none kV doc pm an cdv ct):=⟨⟨oc,od,kV,doc,pm,an,cdv,ct,osl,rfl,l,c⟩,k⟩
end
theorem bf{n:Nat}(h:n<=1000):n<sizeLine:=Nat.lt_of_le_of_lt h (by decide)
section
variable{X:Cx}
theorem pv(i:Nat){x:Str}{pos:Pos}(hN:X.N[i]?=some x:=by rfl)(hv:Vis X.env.scope x:=by first|exact Or.inl rfl|exact Or.inr (Or.inl rfl)|exact Or.inr (Or.inr rfl))(hd:(x==("__debug__":Str))=false:=by decide)
 (hcd:(x==("__classdict__":Str))=false:=by decide):PE X (.Name x pos) (si i):=rm hN hv hd hcd
end
theorem dP{A B:Prop}(h:B):if false=true then A else B:=by rw[uo uz];exact h
theorem qp{A B:Prop}(h:A):if true=true then A else B:=by rw[um rfl];exact h
theorem br{c A B:Prop}[Decidable c](h1:c->A)(h2:¬c->B):if c then A else B:=by
 by_cases h:c
 ·rw[um h];exact h1 h
 ·rw[uo h];exact h2 h
def ao(H H':Hp):Prop:=∀b o,H b=some o->H' b=some o
theorem ao.refl(H:Hp):ao H H:=fun _ _ h=>h
theorem ao.trans{H H1 H2:Hp}(a:ao H H1)(b:ao H1 H2):ao H H2:=fun c o h=>b c o (a c o h)
section
variable{X:Cx}
noncomputable abbrev bE(X:Cx)(N':List Str)(scope:Scope)(cl:List (Str×Addr))(C:Addr)(ex:List Addr)(s:Shared)(H:Hp):Cx where
 prog:=X.prog
 w:=X.w
 K:=X.K
 mg:=X.mg
 base:=X.base
 A:=X.A
 N:=N'
 s₀:=s
 H₀:=H
 env:=compEnvC scope cl C X.env
 outer:=X.stack
 stack:=X.stack
 ex:=ex
 fn:=fun x=>(cl.lookup x).isNone
 calm:=X.calm
 pn:=[]
 xe:=fun _ _=>False
def oU(X:Cx)(ifs:List Expr)(t:TT):Prop:=
 ∀(pins:List (Addr×Obj))(s:Shared)(σ:St)(H:Hp)(Q:Bool->Hp->Prop),Inv X pins σ H s->t σ H Q->
  wpAny (model X.prog X.w) X.A (forIn ifs true fun c r=>if r=true then do let ok <-isTrue c X.env (eval c X.env);pure (ForInStep.yield ok)else pure (ForInStep.yield r)) (TP X pins σ Q) X.xe s
def tL:TT:=fun _ H Q=>Q true H
theorem gO:oU X [] tL:=fun _ _ _ H _ I h=>wpAny_tests_nil ⟨H,I,h⟩
theorem fG{c:Expr}{t:TT}(h:PT X c t):oU X [c] t:=fun pins s σ H Q I q=>wpAny_tests_one (h pins s σ H Q I q)
def Wk(σ σ2:St):Prop:=σ.length=σ2.length/\∀(i:Nat) v,σ[i]?=some (some v)->σ2[i]?=some (some v)
noncomputable def cL(n:Nat)(js:List Nat)(σ:St):St:=List.replicate n none++js.map fun j=>(σ[j]?).join
def qH(wi:TI)(g:TG)(tt:TT)(te:TE)(n:Nat)(js:List Nat):TE:=fun σ H Q=>wi σ H fun J H1=>∀D,H1 D=none->∃W:Nat->Nat->List V->Hp->Prop,(∃m,W 0 m [] (upd H1 D (.lst [])))/\∀i m acc H2,W i m acc H2->
 (J.stop i H2/\Q (.ref D) H2)\/(J.go i H2/\∃N:List V->Hp->Prop,(∀acc' H',N acc' H'->∃m',m'<m/\W (i+1) m' acc' H')/\∀x H3,J.yld i H2 x H3->g x (cL n js σ) H3 fun σ2 H4=>tt σ2 H4 fun b H5=>
  if b=true then te σ2 H5 fun y H6=>H6 D=some (.lst acc)/\acc.length<sizeLine/\N (acc++[y]) (upd H6 D (.lst (acc++[y])))else N acc H5)
theorem oI{pins:List (Addr×Obj)}{σ:St}{H:Hp}{s:Shared}{fp:List Addr}{scope:Scope}{cl:List (Str×Addr)}{own:List Str}{fr:List (Str×Nat)}{h1:Heap}{m0:Str->Option Value}{tk:Nat}
  (I:Inv X pins σ H s) (hf:∀b∈fp,f9 X pins H b) (hlt:∀b∈fp,b<s.heap.objs.size) (hkind:scope.kind=.function)
  (hcl:∀x c,cl.lookup x=some c->X.env.cells.lookup x=some c)
  (hkin:∀x,((relabel scope X.env).names.lookup x=some .cell\/(relabel scope X.env).names.lookup x=some .free)->∃c,cl.lookup x=some c)
  (hfr:∀p∈fr,X.N[p.2]?=some p.1/\X.env.kindOf p.1=some .cell)
  (hvis:∀p∈fr,(relabel scope X.env).names.lookup p.1=some .cell)
  (hn:h1.Ns s.heap.objs.size m0) (kk:∀b u,s.heap.get? b=some u->h1.get? b=some u):
  Inv (bE X (own++fr.map (·.1)) scope cl s.heap.objs.size fp s H) [] (cL own.length (fr.map (·.2)) σ) H {s with heap:=h1,toks:=tk}:=by
 refine⟨⟨I.ok.mod,hkind,I.ok.glob,I.ok.blt,uA _,fun x y c e1 e2=>I.ok.inj x y c (hcl x c e1) (hcl y c e2),hkin,fun x c h e=>?_,I.ok.hd,I.ok.frames,.inl rfl,fun b hb=>?_,I.bs,vS I.ok.bsz I.sz,fun b o e hb=>?_,fun b hb z=>?_,I.stack,I.stkFree⟩,
  rfl,I.bare,Un.kept kk,⟨m0,hn,fun i x v e1 e2 e3=>?_⟩,fun x c e=>?_,I.hok.fresh (uA _),fun x c e=>I.freeC x c (hcl x c e),fun p hp=>absurd (show p∈([]:List (Addr×Obj))from hp) (by simp),I.hok.kept kk,?_⟩
 ·have h':(cl.lookup x).isNone=true:=h;have e':cl.lookup x=some c:=e;rw[e']at h';cases h'
 ·exact⟨uX (hlt b hb),fun x c e=>(hf b hb).2.2.2.2.1 x c (hcl x c e)⟩
 ·rcases (hf b hb).2.2.2.1 with z|z
  ·exact I.ok.noex b o e z
  ·exact absurd (uI (uw (I.ok.bs b o e).1) z) (vR _)
 ·rcases uY.mp (I.stkSub b z)with e|e
  ·exact(hf b hb).2.1 e
  ·exact(hf b hb).2.2.1 e
 ·have e1':(own++fr.map (·.1))[i]?=some x:=e1;have e2':(List.replicate own.length none++(fr.map (·.2)).map fun j=>(σ[j]?).join)[i]?=some (some v):=e2;by_cases hi:i<own.length
  ·rw[List.getElem?_append_left (by simpa using hi),List.getElem?_replicate]at e2';split at e2'<;>cases e2'
  ·rw[wg (by omega)]at e1';rw[wg (by simpa using hi)]at e2';simp only[List.length_replicate,uU,Option.map_map]at e1' e2';cases q:fr[i-own.length]? with
   |none=>rw[q]at e1';cases e1'
   |some p=>
    rw[q]at e1' e2';simp only[Option.map_some,Option.some.injEq]at e1' e2';subst e1';have hp:p∈fr:=uF q;obtain⟨m,_,hl⟩:=I.loc;have e3':σ[p.2]?=some (some v):=by
     cases z:σ[p.2]? with
     |none=>rw[Function.comp_apply,z]at e2';cases e2'
     |some y=>rw[Function.comp_apply,z]at e2';simp only[Option.join]at e2';rw[<-e2'];rfl
    obtain⟨u,r,l⟩:=hl p.2 p.1 v (hfr p hp).1 e3' (.inr (.inl (hfr p hp).2));refine⟨u,r,?_⟩;rcases l with⟨k,_⟩|⟨_,c,hc,z⟩
    ·rw[(hfr p hp).2]at k;cases k
    ·obtain⟨c',hc'⟩:=hkin p.1 (.inl (hvis p hp));have e4:=hcl _ _ hc';rw[hc]at e4;cases e4;obtain⟨o,ho,hd⟩:=z;exact .inr ⟨.inl (hvis p hp),c,hc',⟨o,kk _ _ ho,hd⟩⟩
 ·obtain⟨v,o,ho,hd⟩:=I.cell x c (hcl x c e);exact⟨v,o,kk _ _ ho,hd⟩
 ·show(cL own.length (fr.map (·.2)) σ).length=(own++fr.map (·.1)).length;simp[cL]
theorem jy{prog:Program}{w:World}{A:Around}{R:Result->Shared->Prop}{s:Shared}{elt target iter:Expr}{ifs:List Expr}{scope:Scope}{pos:Pos}{it acc:Value}{env:Env}(I:Nat->Shared->Prop)
  (turn:∀n s,I n s->wpAny (model prog w) A (pyNext it) (fun r s₁=>match r with
   |none=>R (.ok .next) s₁
   |some v=>wpAny (model prog w) A (letOwnedTupleGo target it v) (fun _ s₁'=>wpAny (model prog w) A (assign target env v) (fun _ s₂=>
    wpAny (model prog w) A (forIn ifs true fun c r=>if r=true then do let ok <-isTrue c env (eval c env);pure (ForInStep.yield ok)else pure (ForInStep.yield r)) (fun ok s₃=>
     if ok=true then wpAny (model prog w) A (eval elt env) (fun x s₄=>wpAny (model prog w) A (call (.builtin "list.append") [acc,x]) (fun _ s₅=>∃m,m<n/\I m s₅) (notedBy (model prog w) A env fun e s'=>R (.error e) s') s₄) (notedBy (model prog w) A env fun e s'=>R (.error e) s') s₃
     else ∃m,m<n/\I m s₃) (notedBy (model prog w) A env fun e s'=>R (.error e) s') s₂) (notedBy (model prog w) A env fun e s'=>R (.error e) s') s₁') (notedBy (model prog w) A env fun e s'=>R (.error e) s') s₁) (notedBy (model prog w) A env fun e s'=>R (.error e) s') s)
  (n:Nat) (h:I n s):
  codeAny (model prog w) A (.compLoop (.ListComp elt [⟨target,iter,ifs,0⟩] scope pos) 0 it acc env) R s:=by
 refine codeAny_loop rfl I (fun n s hI=>?_) n h;show wpAny _ A ((compTurn (.ListComp elt [⟨target,iter,ifs,0⟩] scope pos) 0 it acc env).onRaise (fun x=>do noteFrame x env;theTreesLotGoes x)) _ _ s;refine wpAny_noted ?_;rw[compTurn_list];refine uf (wpAny_standAt (uf (vD (turn n s hI) (fun r s₁ h₁=>?_) fun _ _ h'=>h')));cases r with
 |none=>exact ug h₁
 |some v=>
  refine uf (vD h₁ (fun _ s₁' h₁'=>?_) fun _ _ h'=>h');refine uf (vD h₁' (fun _ s₂ h₂=>uf (vD h₂ (fun ok s₃ h₃=>?_) fun _ _ h'=>h')) fun _ _ h'=>h');cases ok with
  |false=>exact ug ⟨rfl,h₃⟩
  |true=>exact uf (uf (vD h₃ (fun x s₄ h₄=>uf (vD h₄ (fun _ s₅ h₅=>ug (ug ⟨rfl,h₅⟩)) fun _ _ h'=>h')) fun _ _ h'=>h'))
theorem hE{elt tg iter:Expr}{ifs:List Expr}{scope:Scope}{pos:Pos}{g:TG}{tt:TT}{te:TE}{own:List Str}{fr:List (Str×Nat)}{cl:List (Str×Addr)}
  {pins:List (Addr×Obj)} {σ:St} {H:Hp} {s:Shared} {Q:VK} {it D:Addr} {fp:List Addr} {tn:Nat->Heap->Prop} {J:It} {W:Nat->Nat->List V->Hp->Prop} {m0:Nat} {RR:Value->Addr->Result->Shared->Prop}
  (hRR:∀(s6:Shared)(H5:Hp)(m:Str->Option Value),Inv X pins σ H5 s6->s6.heap.Ns s.heap.objs.size m->f9 X pins H5 s.heap.objs.size->Q (.ref D) H5->RR (.ref D) s.heap.objs.size (.ok .next) s6)
  (hc:X.calm=true) (hkind:scope.kind=.function) (hnc:∀y∈scope.names,y.2≠ .cell)
  (hcl:∀x c,cl.lookup x=some c->X.env.cells.lookup x=some c)
  (hkin:∀x,((relabel scope X.env).names.lookup x=some .cell\/(relabel scope X.env).names.lookup x=some .free)->∃c,cl.lookup x=some c)
  (hfr:∀p∈fr,X.N[p.2]?=some p.1/\X.env.kindOf p.1=some .cell) (hvis:∀p∈fr,(relabel scope X.env).names.lookup p.1=some .cell)
  (hw:∀x σ H R,σ.length=own.length+fr.length->(∀(i:Nat),i<own.length->σ[i]?=some none)->g x σ H R->g x σ H fun σ2 H2=>Wk σ σ2/\R σ2 H2)
  (hg:∀C ex s H,PG (bE X (own++fr.map (·.1)) scope cl C ex s H) tg g)
  (ht:∀C ex s H,oU (bE X (own++fr.map (·.1)) scope cl C ex s H) ifs tt)
  (he:∀C ex s H,PE (bE X (own++fr.map (·.1)) scope cl C ex s H) elt te)
  (I:Inv X pins σ H s) (T:Turn X.prog X.w X.K tg J fp it tn) (st:tn 0 s.heap) (hf:∀b∈fp,f9 X pins H b) (w0:W 0 m0 [] H)
  (turn:∀i m acc H2,W i m acc H2->(J.stop i H2/\Q (.ref D) H2)\/(J.go i H2/\∃N:List V->Hp->Prop,(∀acc' H',N acc' H'->∃m',m'<m/\W (i+1) m' acc' H')/\∀x H3,J.yld i H2 x H3->g x (cL own.length (fr.map (·.2)) σ) H3 fun σ2 H4=>tt σ2 H4 fun b H5=>if b=true then te σ2 H5 fun y H6=>H6 D=some (.lst acc)/\acc.length<sizeLine/\N (acc++[y]) (upd H6 D (.lst (acc++[y])))else N acc H5)):
  wpAny (model X.prog X.w) X.A (newFunctionEnv scope X.env.globals cl [] X.env.qual none .none (some X.env)) (fun cenv s₄=>
   codeAny (model X.prog X.w) X.A (.compStart (.ListComp elt [⟨tg,iter,ifs,0⟩] scope pos) 0 (.ref it) (.ref D) {cenv with scope:=relabel scope X.env})
    (RR (.ref D) cenv.locals) s₄) X.xe s:=by
 have hlt:∀b∈fp,b<s.heap.objs.size:=fun b hb=>by obtain⟨o,e,_⟩:=T.obj 0 _ st b hb;exact uw e
 refine wpAny_newFunctionEnv hnc (by intro y hy;simp at hy) (fun h₁ hns hsb=>?_) hkind;have kk:∀b u,s.heap.get? b=some u->h₁.get? b=some u:=fun b u e=>(hsb.2 b (uX (uw e))).trans (uh _ e);have I4:Inv (bE X (own++fr.map (·.1)) scope cl s.heap.objs.size fp s H) [] (cL own.length (fr.map (·.2)) σ) H {s with heap:=h₁,toks:=s.toks+([]:List (Str×Value)).length}:=
  oI I hf hlt hkind hcl hkin hfr hvis hns kk
 have st4:tn 0 h₁:=T.keep _ _ _ st fun b _ o e=>kk b o e;have hσ:(cL own.length (fr.map (·.2)) σ).length=own.length+fr.length:=by simp[cL]
 have hσ0:∀(i:Nat),i<own.length->(cL own.length (fr.map (·.2)) σ)[i]?=some none:=fun i hi=>by unfold cL;rw[List.getElem?_append_left (by simpa using hi),List.getElem?_replicate,um hi]
 have stat:∀{H':Hp},(∀b∈fp,H' b=none)->∀b∈fp,f9 (bE X (own++fr.map (·.1)) scope cl s.heap.objs.size fp s H) [] H' b:=fun hn b hb=>⟨hn b hb,uX (hlt b hb),fun z=>(uY.mp (I.stkSub b z)).elim (hf b hb).2.1 (hf b hb).2.2.1,.inl hb,fun x c e=>(hf b hb).2.2.2.2.1 x c (hcl x c e),fun p hp=>absurd (show p∈([]:List (Addr×Obj))from hp) (by simp)⟩
 have loop:∀s4:Shared,s4={s with heap:=h₁,toks:=s.toks+([]:List (Str×Value)).length}->
   codeAny (model X.prog X.w) X.A (.compLoop (.ListComp elt [⟨tg,iter,ifs,0⟩] scope pos) 0 (.ref it) (.ref D) (compEnvC scope cl s.heap.objs.size X.env))
    (RR (.ref D) s.heap.objs.size) s4:=by
  rintro s4 rfl;refine jy (fun n s'=>∃i acc H',Inv (bE X (own++fr.map (·.1)) scope cl s.heap.objs.size fp s H) [] (cL own.length (fr.map (·.2)) σ) H' s'/\tn i s'.heap/\(∀b∈fp,H' b=none)/\W i n acc H') ?_ m0
   ⟨0,[],H,I4,st4,fun b hb=>(hf b hb).1,w0⟩
  rintro n s5 ⟨i,acc,H5,I5,st5,fr5,w5⟩;rcases turn i n acc H5 w5 with⟨stop,q⟩|⟨go,N,hN,step⟩
  ·refine vD (T.done (bE X (own++fr.map (·.1)) scope cl s.heap.objs.size fp s H) rfl rfl rfl hc i [] s5 _ H5 _ I5 (stat fr5) st5 stop) (fun r s6 ⟨hr,I6⟩=>?_) (fun _ _ z=>z);subst hr;obtain⟨m6,hn6,_⟩:=id I6.loc;have I7:Inv X pins σ H5 s6:=I.call' (ch:=fp) I6.os I6.base I6.hok I6.bare (fun b hb=>⟨(hf b hb).2.2.2.1,(hf b hb).2.1,(hf b hb).2.2.2.2.1,(hf b hb).2.2.2.2.2⟩);exact hRR s6 H5 m6 I7 hn6 (I.fpOk (H':=H5) (uA _) I6.free) q
  ·refine vD (T.item (bE X (own++fr.map (·.1)) scope cl s.heap.objs.size fp s H) rfl rfl rfl hc i [] s5 _ H5 _ I5 (stat fr5) st5 go) (fun r s6 hPz=>?_) (fun _ _ z=>z);obtain⟨u,hr,h6⟩:=hPz;subst hr;refine vD h6 (fun _ s7 hPz=>?_) (fun _ _ z=>z);obtain⟨x,H7,I7,r7,y7,st7,fr7⟩:=hPz;have I7':=I7.pinned (stat fr7) (T.obj _ _ st7);refine vD (hg s.heap.objs.size fp s H _ s7 _ H7 x u _ I7' r7 (hw x _ H7 _ hσ hσ0 (step x H7 y7))) (fun _ s8 hPz=>?_) (fun _ _ z=>False.elim z);obtain⟨σ8,H8,I8,wk,q8⟩:=hPz;have again:∀{s10:Shared}{H10:Hp}{acc':List V},Inv (bE X (own++fr.map (·.1)) scope cl s.heap.objs.size fp s H) ([]++gN fp s7.heap) σ8 H10 s10->N acc' H10->
     ∃m,m<n/\∃i acc H',Inv (bE X (own++fr.map (·.1)) scope cl s.heap.objs.size fp s H) [] (cL own.length (fr.map (·.2)) σ) H' s10/\tn i s10.heap/\(∀b∈fp,H' b=none)/\W i m acc H':=fun {s10 H10 acc'} I10 n10=>by
    obtain⟨m',hm,w10⟩:=hN acc' H10 n10;refine⟨m',hm,i+1,acc',H10,I10.unpinned.weak wk.1 wk.2,T.keep _ _ _ st7 fun b hb o e=>(I10.pin (b,o) (uT _ (uT _ (dI hb e)))).1,fun b hb=>?_,w10⟩;obtain⟨o,e,d⟩:=T.obj _ _ st7 b hb;exact(I10.pin (b,o) (uT _ (uT _ (dI hb e)))).2.1
   refine vD (ht s.heap.objs.size fp s H _ s8 σ8 H8 _ I8 q8) (fun b s9 hPz=>?_) (fun _ _ z=>False.elim z);obtain⟨H9,I9,q9⟩:=hPz;cases b with
   |false=>exact again I9 q9
   |true=>refine vD (he s.heap.objs.size fp s H _ s9 σ8 H9 _ I9 q9) (fun y s10 hPz=>?_) (fun _ _ z=>False.elim z);obtain⟨yv,H10,I10,r10,hD,hl,n10⟩:=hPz;refine vD (b7 (X:=bE X (own++fr.map (·.1)) scope cl s.heap.objs.size fp s H) _ s10 σ8 H10 (.ref D) [yv] (.ref D) [y] (fun _ H'=>H'=upd H10 D (.lst (acc++[yv]))) I10 rfl (.cons r10 .nil) ⟨D,acc,yv,rfl,rfl,hD,hl,rfl⟩) (fun _ s11 hPz=>?_) (fun _ _ z=>False.elim z);obtain⟨_,H11,I11,_,e11⟩:=hPz;subst e11;exact again I11 n10
 exact codeAny_compStart_list (loop _ rfl) (T.self _ 0 _ _ _ st4 (loop _ rfl))
theorem dC{elt tg iter:Expr}{ifs:List Expr}{scope:Scope}{pos:Pos}{wi:TI}{g:TG}{tt:TT}{te:TE}(own:List Str)(fr:List (Str×Nat))(cl:List (Str×Addr))
  (hc:X.calm=true) (hclos:closureFor scope X.env=pure cl) (hkind:scope.kind=.function) (hnc:∀y∈scope.names,y.2≠ .cell)
  (hnames:∀y∈scope.names,y.2=.local->scope.names.lookup y.1=some .local)
  (hcl:∀x c,cl.lookup x=some c->X.env.cells.lookup x=some c)
  (hkin:∀x,((relabel scope X.env).names.lookup x=some .cell\/(relabel scope X.env).names.lookup x=some .free)->∃c,cl.lookup x=some c)
  (hfr:∀p∈fr,X.N[p.2]?=some p.1/\X.env.kindOf p.1=some .cell) (hvis:∀p∈fr,(relabel scope X.env).names.lookup p.1=some .cell)
  (hw:∀x σ H R,σ.length=own.length+fr.length->(∀(i:Nat),i<own.length->σ[i]?=some none)->g x σ H R->g x σ H fun σ2 H2=>Wk σ σ2/\R σ2 H2)
  (hi:PI X tg iter wi)
  (hg:∀C ex s H,PG (bE X (own++fr.map (·.1)) scope cl C ex s H) tg g)
  (ht:∀C ex s H,oU (bE X (own++fr.map (·.1)) scope cl C ex s H) ifs tt)
  (he:∀C ex s H,PE (bE X (own++fr.map (·.1)) scope cl C ex s H) elt te)
  (hs:∀x,foldedSetIterable iter X.env x=pure x:=by intro _;rfl):
  PE X (.ListComp elt [⟨tg,iter,ifs,0⟩] scope pos) (qH wi g tt te own.length (fr.map (·.2))):=by
 intro pins s σ H Q I h;rw[eval_ListComp];refine wpAny_comprehension_free (use:=none) rfl hs hclos hkind hnames (thn (hi pins s σ H _ I h) fun v s1 h1=>thn h1 fun itv s2 h2=>?_);obtain⟨it,fp,tn,J,H2,e,I2,T,st2,f2,h2⟩:=h2;subst e;obtain⟨W,⟨m0,w0⟩,turn⟩:=h2 s2.heap.objs.size I2.fresh;have I3:=I2.lnew (its:=[]) (ys:=[]) (t':=s2.toks) .nil (vg _);refine v8 (T:="list") ?_;refine hE (RR:=fun acc C=>compPost (model X.prog X.w) X.A X.xe none (EP X pins σ Q) acc C) (W:=W) (m0:=m0) (D:=s2.heap.objs.size) (own:=own) (fr:=fr)
  (fun s6 H5 m I7 hn fc q=>⟨m,hn,fun h7 sb=>⟨.ref s2.heap.objs.size,H5,I7.turned (t':=s6.toks) (fun b o hb e=>(sb.2 b hb).trans e) fc.1 fc.2.1 fc.2.2.2.1 fc.2.2.2.2.1 fc.2.2.2.2.2,rfl,q⟩⟩) hc hkind hnc hcl hkin hfr hvis hw hg ht he I3 T (T.keep _ _ _ st2 fun b _ o e=>uh _ e) (fun b hb=>?_) w0 turn
 obtain⟨o,e,_⟩:=T.obj _ _ st2 b hb;exact⟨by rw[ax (uX (uw e))];exact(f2 b hb).1,(f2 b hb).2⟩
theorem pO{elt tg iter:Expr}{ifs:List Expr}{scope:Scope}{pos spos py:Pos}{y:Str}{i:Nat}{wi:TI}{g:TG}{tt:TT}{te:TE}(hN:X.N.Nodup)(hiy:X.N[i]?=some y)(hy:Loc X.env.scope y)(own:List Str)(fr:List (Str×Nat))(cl:List (Str×Addr))
  (hc:X.calm=true) (hclos:closureFor scope X.env=pure cl) (hkind:scope.kind=.function) (hnc:∀y∈scope.names,y.2≠ .cell)
  (hnames:∀y∈scope.names,y.2=.local->scope.names.lookup y.1=some .local)
  (hcl:∀x c,cl.lookup x=some c->X.env.cells.lookup x=some c)
  (hkin:∀x,((relabel scope X.env).names.lookup x=some .cell\/(relabel scope X.env).names.lookup x=some .free)->∃c,cl.lookup x=some c)
  (hfr:∀p∈fr,X.N[p.2]?=some p.1/\X.env.kindOf p.1=some .cell) (hvis:∀p∈fr,(relabel scope X.env).names.lookup p.1=some .cell)
  (hw:∀x σ H R,σ.length=own.length+fr.length->(∀(i:Nat),i<own.length->σ[i]?=some none)->g x σ H R->g x σ H fun σ2 H2=>Wk σ σ2/\R σ2 H2)
  (hi:PI X tg iter wi)
  (hg:∀C ex s H,PG (bE X (own++fr.map (·.1)) scope cl C ex s H) tg g)
  (ht:∀C ex s H,oU (bE X (own++fr.map (·.1)) scope cl C ex s H) ifs tt)
  (he:∀C ex s H,PE (bE X (own++fr.map (·.1)) scope cl C ex s H) elt te)
  (hsw:swapsWith (.ListComp elt [⟨tg,iter,ifs,0⟩] scope pos) (some (.Name y py)) spos.line X.env=pure true:=by rfl)
  (hs:∀x,foldedSetIterable iter X.env x=pure x:=by intro _;rfl)
  (hf:X.fn y=true\/X.env.scope.names.lookup y=some .local:=by first|exact .inl rfl|exact .inr rfl|assumption):
  PS X (.Assign [.Name y py] (.ListComp elt [⟨tg,iter,ifs,0⟩] scope pos) spos) (sD (qH wi g tt te own.length (fr.map (·.2))) (eY i)):=by
 intro pins s σ H D I h;rw[exec_Assign_Name_used _ _ _ _ hsw];refine uf (wpAny_standAt (uf ?_));show wpAny _ _ (do let _ <-comprehension (.ListComp elt [⟨tg,iter,ifs,0⟩] scope pos) scope X.env _ (newList []) false (eval iter X.env) (some (assign (.Name y py) X.env))) _ _ s;refine uf (vD (wpAny_comprehension_free (use:=some (assign (.Name y py) X.env)) (Q:=fun _ s'=>SP X pins D .next s') rfl hs hclos hkind hnames (thn (hi pins s σ H _ I h) fun v s1 h1=>thn h1 fun itv s2 h2=>?_)) (fun _ s' hq=>ug (ug hq)) fun _ _ e=>e);obtain⟨it,fp,tn,J,H2,e,I2,T,st2,f2,h2⟩:=h2;subst e;obtain⟨W,⟨m0,w0⟩,turn⟩:=h2 s2.heap.objs.size I2.fresh;have I3:=I2.lnew (its:=[]) (ys:=[]) (t':=s2.toks) .nil (vg _);refine v8 (T:="list") ?_;refine hE (Q:=fun v H5=>eY i v σ H5 D.nx) (RR:=fun acc C=>compPost (model X.prog X.w) X.A X.xe (some (assign (.Name y py) X.env)) (fun _ s'=>SP X pins D .next s') acc C) (W:=W) (m0:=m0) (D:=s2.heap.objs.size) (own:=own) (fr:=fr)
  (fun s6 H5 m I7 hn fc q=>?_) hc hkind hnc hcl hkin hfr hvis hw hg ht he I3 T (T.keep _ _ _ st2 fun b _ o e=>uh _ e) (fun b hb=>?_) w0 turn
 ·show wpAny _ _ (assign (.Name y py) X.env (.ref s2.heap.objs.size)) _ _ _;refine wpAny_assign_Name (iA (v:=.ref s2.heap.objs.size) I7 hN hiy hy rfl (fun s' I' hsb=>?_) hf);obtain⟨a,sb,ha⟩:=hsb;have hne:s2.heap.objs.size+1≠a\/True:=.inr trivial;have hCa:a≠({s2 with heap:=s2.heap.push {cls:=.type "list",data:=.seq ([]:List Value).toArray},toks:=s2.toks}:Shared).heap.objs.size:=by
   rcases ha with rfl|ha
   ·exact Ne.symm fc.2.1
   ·exact fc.2.2.2.2.1 y a ha
  refine⟨m,hn.sameBut sb (Ne.symm hCa),fun h7 sb7=>?_⟩;exact⟨_,H5,I'.turned (t':=s'.toks) (fun b o hb e=>(sb7.2 b hb).trans e) fc.1 fc.2.1 fc.2.2.2.1 fc.2.2.2.2.1 fc.2.2.2.2.2,q⟩
 ·obtain⟨o,e,_⟩:=T.obj _ _ st2 b hb;exact⟨by rw[ax (uX (uw e))];exact(f2 b hb).1,(f2 b hb).2⟩
noncomputable def gr(env:Env)(xs:List Str):List (Str×Addr):=xs.map fun x=>(x,(env.cells.lookup x).getD 0)
noncomputable def qK(names:List (Str×NameKind))(xs:List Str):Bool:=names.all fun p=>(!(decide (p.2=.cell))&& !(decide (p.2=.free)))||decide (p.1∈xs)
theorem gm{env:Env}:∀{xs:List Str}{x:Str},x∈xs->∃c,(gr env xs).lookup x=some c
 | [],_,h=>absurd h (by simp)
 |y::xs,x,h=>by
  show ∃c,List.lookup x ((y,(env.cells.lookup y).getD 0)::gr env xs)=some c;rw[List.lookup_cons];cases e:x==y with
  |true=>exact⟨_,rfl⟩
  |false=>
   rcases uY.mp h with rfl|h
   ·rw[beq_self_eq_true]at e;cases e
   ·exact gm h
theorem bI{env:Env}:∀{xs:List Str},(xs.all fun x=>(env.cells.lookup x).isSome)=true->∀x c,(gr env xs).lookup x=some c->env.cells.lookup x=some c
 | [],_,x,c,h=>by cases h
 |y::xs,ha,x,c,h=>by
  rw[List.all_cons,vo]at ha;have h':List.lookup x ((y,(env.cells.lookup y).getD 0)::gr env xs)=some c:=h;rw[List.lookup_cons]at h';cases e:x==y with
  |true=>
   rw[e]at h';have exy:x=y:=eq_of_beq e;subst exy;have hc:(env.cells.lookup x).getD 0=c:=vJ h';cases q:env.cells.lookup x with
   |none=>rw[q]at ha;cases ha.1
   |some z=>rw[q]at hc;rw[<-hc];rfl
  |false=>rw[e]at h';exact bI ha.2 x c h'
theorem ff{names:List (Str×NameKind)}{xs:List Str}{env:Env}(h:qK names xs=true):∀x,(names.lookup x=some .cell\/names.lookup x=some .free)->∃c,(gr env xs).lookup x=some c:=fun x hx=>by
 refine gm ?_;unfold qK at h;rw[List.all_eq_true]at h;rcases hx with hx|hx
 ·have:=h _ (wb hx);simpa using this
 ·have:=h _ (wb hx);simpa using this
theorem eg{n m i:Nat}(hi:i<n):∀x σ H R,σ.length=n+m->(∀(k:Nat),k<n->σ[k]?=some none)->eY i x σ H R->eY i x σ H fun σ2 H2=>Wk σ σ2/\R σ2 H2:=fun x σ H R _ h0 h=>
 ⟨⟨by simp,fun k v e=>by
  by_cases hk:k=i
  ·subst hk;rw[h0 _ hi]at e;cases e
  ·rw[List.getElem?_set_ne (Ne.symm hk)];exact e⟩,h⟩
theorem hC{n:Nat}{g:TG}{tt:TT}{te:TE}{σ0:St}{lo:Int}{Q:VK}{D:Addr}{H:Hp}(Pv:Nat->List V->Hp->Prop)(h0:Pv 0 [] H)
  (hs:∀i acc H2,i<n->Pv i acc H2->g (.int (lo+i)) σ0 H2 fun σ2 H4=>tt σ2 H4 fun b H5=>if b=true then te σ2 H5 fun y H6=>H6 D=some (.lst acc)/\acc.length<sizeLine/\Pv (i+1) (acc++[y]) (upd H6 D (.lst (acc++[y])))else Pv (i+1) acc H5)
  (hd:∀acc H2,Pv n acc H2->Q (.ref D) H2):
  ∃W:Nat->Nat->List V->Hp->Prop,(∃m,W 0 m [] H)/\∀i m acc H2,W i m acc H2->
   ((Itr lo n).stop i H2/\Q (.ref D) H2)\/((Itr lo n).go i H2/\∃N:List V->Hp->Prop,(∀acc' H',N acc' H'->∃m',m'<m/\W (i+1) m' acc' H')/\∀x H3,(Itr lo n).yld i H2 x H3->g x σ0 H3 fun σ2 H4=>tt σ2 H4 fun b H5=>if b=true then te σ2 H5 fun y H6=>H6 D=some (.lst acc)/\acc.length<sizeLine/\N (acc++[y]) (upd H6 D (.lst (acc++[y])))else N acc H5):=by
 refine⟨fun i m acc H=>m=n-i/\i<=n/\Pv i acc H,⟨n,by simp,vg _,h0⟩,?_⟩;rintro i m acc H2 ⟨rfl,hi,p⟩;by_cases hlt:i<n
 ·refine .inr ⟨hlt,Pv (i+1),fun acc' H' p'=>⟨n-(i+1),by omega,rfl,hlt,p'⟩,fun x H3 y=>?_⟩;obtain⟨e,y⟩:=y;subst e y;exact hs i acc _ hlt p
 ·have e:i=n:=by omega
  subst e;exact .inl ⟨uA _,hd acc H2 p⟩
theorem ny{K:Frag}{a:Addr}{xs:List V}{g:TG}{tt:TT}{te:TE}{σ0:St}{Q:VK}{D:Addr}{H:Hp}(Pv:Nat->List V->Hp->Prop)(h0:Pv 0 [] H)(hl:∀i acc H,i<=xs.length->Pv i acc H->SqL K H a xs)
  (hs:∀i x acc H2,xs[i]?=some x->Pv i acc H2->g x σ0 H2 fun σ2 H4=>tt σ2 H4 fun b H5=>if b=true then te σ2 H5 fun y H6=>H6 D=some (.lst acc)/\acc.length<sizeLine/\Pv (i+1) (acc++[y]) (upd H6 D (.lst (acc++[y])))else Pv (i+1) acc H5)
  (hd:∀acc H2,Pv xs.length acc H2->Q (.ref D) H2):
  ∃W:Nat->Nat->List V->Hp->Prop,(∃m,W 0 m [] H)/\∀i m acc H2,W i m acc H2->
   ((Itl K a).stop i H2/\Q (.ref D) H2)\/((Itl K a).go i H2/\∃N:List V->Hp->Prop,(∀acc' H',N acc' H'->∃m',m'<m/\W (i+1) m' acc' H')/\∀x H3,(Itl K a).yld i H2 x H3->g x σ0 H3 fun σ2 H4=>tt σ2 H4 fun b H5=>if b=true then te σ2 H5 fun y H6=>H6 D=some (.lst acc)/\acc.length<sizeLine/\N (acc++[y]) (upd H6 D (.lst (acc++[y])))else N acc H5):=by
 refine⟨fun i m acc H=>m=xs.length-i/\i<=xs.length/\Pv i acc H,⟨xs.length,by simp,vg _,h0⟩,?_⟩;rintro i m acc H2 ⟨rfl,hi,p⟩;have q:=hl i acc H2 hi p;by_cases hlt:i<xs.length
 ·refine .inr ⟨⟨xs,xs[i],q,by simp[hlt]⟩,Pv (i+1),fun acc' H' p'=>⟨xs.length-(i+1),by omega,rfl,hlt,p'⟩,fun x H3 y=>?_⟩;obtain⟨e,y⟩:=y;subst e;exact hs i x acc _ (y xs q) p
 ·have e:i=xs.length:=by omega
  subst e;exact .inl ⟨⟨xs,q,uA _⟩,hd acc H2 p⟩
end
mutual
inductive IsD(K:Frag)(H:Hp):PyData->V->Prop
 |non:IsD K H .none .non
 |bl (b:Bool):IsD K H (.bool b) (.bl b)
 |int (i:Int):IsD K H (.int i) (.int i)
 |str (x:Str):IsD K H (.str x) (.str x)
 |tup {a:Addr} {vs:List V} {ds:List PyData}:SqT K H a vs->eO K H ds vs->IsD K H (.tuple ds) (.ref a)
 |lst {a:Addr} {vs:List V} {ds:List PyData}:SqL K H a vs->eO K H ds vs->IsD K H (.list ds) (.ref a)
inductive eO(K:Frag)(H:Hp):List PyData->List V->Prop
 |nil:eO K H [] []
 |cons {d:PyData} {v:V} {ds:List PyData} {vs:List V}:IsD K H d v->eO K H ds vs->eO K H (d::ds) (v::vs)
end
section
variable{X:Cx}{pins:List (Addr×Obj)}{σ:St}{H:Hp}{s:Shared}
mutual
theorem IsD.reads(I:Inv X pins σ H s):∀{d:PyData}{v:V}{u:Value},IsD X.K H d v->RelV v u->∃as,Reads s.heap u d as
 |_,_,_,.non,r=>by cases r;exact⟨_,.none⟩
 |_,_,_,.bl b,r=>by cases r;exact⟨_,.bool b⟩
 |_,_,_,.int i,r=>by obtain⟨t,rfl⟩:=r;exact⟨_,.int i t⟩
 |_,_,_,.str x,r=>by obtain⟨t,rfl⟩:=r;exact⟨_,.str x t⟩
 |_,_,_,.tup h1 h2,r=>by cases r;obtain⟨its,rv,⟨o,e,c,n,d⟩,hz⟩:=I.tuple h1;obtain⟨as,ra⟩:=eO.reads I h2 rv;exact⟨_,.tuple e c d (by simpa using ra)⟩
 |_,_,_,.lst h1 h2,r=>by cases r;obtain⟨its,rv,pl,hz⟩:=I.list h1;obtain⟨o,e,c,n,d⟩:=pl.isList;obtain⟨as,ra⟩:=eO.reads I h2 rv;exact⟨_,.list e c d (by simpa using ra)⟩
theorem eO.reads(I:Inv X pins σ H s):∀{ds:List PyData}{vs:List V}{us:List Value},eO X.K H ds vs->Vals vs us->∃as,ReadsAll s.heap us ds as
 |_,_,_,.nil,.nil=>⟨_,.nil⟩
 |_,_,_,.cons h t,.cons r rs=>by obtain⟨as,ra⟩:=IsD.reads I h r;obtain⟨bs,rb⟩:=eO.reads I t rs;exact⟨_,.cons ra rb⟩
end
noncomputable def tZ(K:Frag):R2:=fun x y H Q=>∃d1 d2,IsD K H d1 x/\IsD K H d2 y/\d1.canLay0=true/\d2.canLay0=true/\d2.depth<=50/\Q (.bl (PyData.eqv d1 d2)) H
noncomputable def sL(K:Frag):R2:=fun x y H Q=>∃d1 d2,IsD K H d1 x/\IsD K H d2 y/\d1.canLay0=true/\d2.canLay0=true/\d2.depth<=50/\Q (.bl (!PyData.eqv d1 d2)) H
theorem kY(hu:X.A.units+64<cLine):OpR X (compareOp .Eq) (tZ X.K):=by intro pins s σ H x y v u Q I rx ry h;obtain⟨d1,d2,h1,h2,c1,c2,hd,q⟩:=h;obtain⟨as,ra⟩:=IsD.reads I h1 rx;obtain⟨bs,rb⟩:=IsD.reads I h2 ry;exact SeqAt.rcAt_reads ra rb c1 c2 (by omega) _ _ _ _ (show EP X pins σ Q _ s from⟨.bl _,H,I,rfl,q⟩)
theorem gP(hu:X.A.units+64<cLine):OpR X (compareOp .NotEq) (sL X.K):=by intro pins s σ H x y v u Q I rx ry h;obtain⟨d1,d2,h1,h2,c1,c2,hd,q⟩:=h;obtain⟨as,ra⟩:=IsD.reads I h1 rx;obtain⟨bs,rb⟩:=IsD.reads I h2 ry;exact SeqAt.rcNeAt_reads ra rb c1 c2 (by omega) _ _ _ _ (show EP X pins σ Q _ s from⟨.bl _,H,I,rfl,q⟩)
theorem n9:OpR X (binaryOp .FloorDiv) (rI (fun _ j=>0<j/\j.natAbs.log2<9000) fun i j=>.int (i / j)):=opI fun i j _ _ _ _ _ hc q=>by have h1:(0:Int)<j:=hc.1;exact floordiv_int (by omega) (by rw[Int.fdiv_eq_ediv_of_nonneg i (by omega)];exact q) (.inl (PyProof.noPylong_of_log2 hc.2))
def sO:V->List V->Hp->VK->Prop:=fun x xs H Q=>∃i,x=.int i/\xs=[]/\Q (.int (Builtin.Int.intBits i:Nat)) H
theorem p8:MtR X "int.bit_length" sO:=by intro pins s σ H x xs v us Q I rx rv h;obtain⟨i,rfl,rfl,q⟩:=h;cases rv;obtain⟨t,rfl⟩:=rx;exact call_int_bit_length ⟨.int _,H,I.tok _,⟨_,rfl⟩,q⟩
def tX(K:Frag):List V->Hp->VK->Prop:=fun xs H Q=>∃x n t b,xs=[x,.ty n]/\c0 K H x t/\kitOne K t (.type n)=some b/\Q (.bl b) H
theorem ed:ef X (.builtin "isinstance") (tX X.K):=by
 intro pins s σ H xs us Q I rs h;obtain⟨x,n,t,b,rfl,ty,e,q⟩:=h;cases rs with
 |cons r rr=>
  cases rr with
  |cons r2 rr=>cases rr;cases r2;exact nk I r ty e fun tk=>⟨.bl b,H,I.tok _,rfl,q⟩
structure Df(P:Program)(w:World)(K:Frag)(mg:Str->Option Value)(base:Heap)(k:Nat)(x:Str)(ps:List Str)(sp:Sp):Prop where
 ex:∃f fd,jF P w K mg base CX0 k f fd ps sp/\Binds K fd ps []/\mg x=some (.ref f)/\keepIn K (.ref f)=true
structure Tx(K:Frag)(mg:Str->Option Value)(x:Str)(st:Stmt)(ps:List Str):Prop where
 ex:∃f fd,Fun K x x st f fd/\Binds K fd ps []/\mg x=some (.ref f)
theorem Tx.df{P:Program}{w:World}{K:Frag}{mg:Str->Option Value}{base:Heap}{x:Str}{st:Stmt}{N ps:List Str}{k:Nat}{sp:Sp}(T:Tx K mg x st ps)(S:aE N ps (au st))
  (len:∀vs H Q E,sp vs H Q E->vs.length=ps.length)
  (hbody:∀(f:Addr)(cdv:Value)(A:Around)(outer:List Env)(s:Shared)(H:Hp)(vs:List V)(Q:VK)(E:XK),dF k (A.deeper (envOfC x (au st) s.heap.objs.size f cdv))->sp vs H Q E->
   ∃t,PSs (lM CX0 P w K mg base N x (au st) f cdv A outer s H E).nox (cO st) t/\t {nx:=fun _ H'=>Q .non H',rt:=Q} (start N vs) H):Df P w K mg base (k+1) x ps sp:=by
 obtain⟨f,fd,F,b,hm⟩:=T.ex;exact⟨f,fd,F.ok S len fun cdv A outer s H vs Q E hr h=>hbody f cdv A outer s H vs Q E hr h,b,hm,F.kp⟩
def tCF(sp:Sp)(t:TA):TE:=fun σ H Q=>t σ H fun vs H1=>sp vs H1 Q E0
theorem aJ{j k:Nat}{x:Str}{ps:List Str}{sp:Sp}{p pos:Pos}{e:Expr}{es:List Expr}{t:TA}(D:Df X.prog X.w X.K X.mg X.base j x ps sp)(hr:dF k X.A)(ha:PA X (e::es) t)(hg:Gl X x:=by rfl)(hj:j<=k:=by decide)
  (hdb:(x==("__debug__":Str))=false:=by decide) (he:starEach (e::es) X.env=(false,eval e X.env)::starEach es X.env:=by rfl) (hpl:(backTo pos (starEach es X.env)).any (·.1)=false:=by rfl):
  PE X (.Call (.Name x p) (e::es) [] pos) (tCF sp t):=by
 obtain⟨f,fd,F,b,hm,kp⟩:=D.ex;have h:=pT (ds:=[]) (dvs:=[]) (E:=E0) (p:=p) (pos:=pos) F (hr.mono hj) hg hm kp b .nil sQ ha hdb he hpl;have e1:nK sp [] E0 t=tCF sp t:=by funext σ H Q;unfold nK tCF;simp only[vn]
 rw[e1]at h;exact h
structure Bn(mg:Str->Option Value):Prop where
 len:mg "len"=none
 range:mg "range"=none
 isinstance:mg "isinstance"=none
 int:mg "int"=none
 bool:mg "bool"=none
 list:mg "list"=none
 tuple:mg "tuple"=none
 str:mg "str"=none
 dict:mg "dict"=none
 sorted:mg "sorted"=none
 enumerate:mg "enumerate"=none
 min:mg "min"=none
 max:mg "max"=none
 set:mg "set"=none
theorem ao.upd{H:Hp}{a:Addr}{o:HO}(h:H a=none):ao H (upd H a o):=fun b u e=>by rw[ax (bW e h)];exact e
theorem ao.tup{K:Frag}{H H':Hp}{a:Addr}{xs:List V}(e:ao H H')(h:SqT K H a xs):SqT K H' a xs:=by
 rcases h with(h|⟨o,h⟩)|h
 ·exact .inl (.inl (e _ _ h))
 ·exact .inl (.inr ⟨o,e _ _ h⟩)
 ·exact .inr h
end
theorem sf{K:Frag}{h:Heap}{mg:Str->Option Value}{x:Str}{st:Stmt}{ps:List Str}{f:Addr}{oc:Value}{od an:Option Addr}{osl:Array (Option Value)}{kV doc pm cdv ct:Value}(X:K.In h)(G:h.Ns mainGlobals mg)
  (a:nsIn K mainGlobals x=some (some (.ref f)))
  (l:K.lookup f=some ⟨oc,od,.func (fnOf x x (dJ st) (cO st) (au st) .none kV doc pm an cdv ct),osl⟩)
  (c:codeIn K cdv x=true) (k:keepIn K (.ref f)=true)
  (hb:∀(kV doc pm:Value)(an:Option Addr)(cdv ct:Value)(us:List Value),us.length=ps.length->bindArgs (fnOf x x (dJ st) (cO st) (au st) .none kV doc pm an cdv ct) ⟨us,[]⟩=pure (ps.zip us)):Tx K mg x st ps:=
 ⟨f,_,oM l c k,(oM l c k).binds hb,PySem.W.mg_of X G a⟩
theorem tI{K:Frag}{h:Heap}{mg:Str->Option Value}(X:K.In h)(G:h.Ns mainGlobals mg)
  (z0:nsIn K mainGlobals "len"=some none) (z1:nsIn K mainGlobals "range"=some none) (z2:nsIn K mainGlobals "isinstance"=some none)
  (z3:nsIn K mainGlobals "int"=some none) (z4:nsIn K mainGlobals "bool"=some none) (z5:nsIn K mainGlobals "list"=some none) (z6:nsIn K mainGlobals "tuple"=some none)
  (z7:nsIn K mainGlobals "str"=some none) (z8:nsIn K mainGlobals "dict"=some none) (z9:nsIn K mainGlobals "sorted"=some none) (z10:nsIn K mainGlobals "enumerate"=some none)
  (z11:nsIn K mainGlobals "min"=some none) (z12:nsIn K mainGlobals "max"=some none) (z13:nsIn K mainGlobals "set"=some none):Bn mg:=
 ⟨vc X G z0,vc X G z1,vc X G z2,vc X G z3,vc X G z4,vc X G z5,vc X G z6,vc X G z7,vc X G z8,vc X G z9,vc X G z10,vc X G z11,vc X G z12,vc X G z13⟩
def sr(t u:TS):TS:=fun D σ H=>∃R:St->Hp->Prop,t {D with nx:=R} σ H/\∀σ' H',R σ' H'->u D σ' H'
theorem bM{X:Cx}{st:Stmt}{rest:List Stmt}{t u:TS}(h1:PS X st t)(h2:PSs X rest u):PSs X (st::rest) (sr t u):=by
 intro pins s σ H D I h;obtain⟨R,h,hR⟩:=h;refine wpAny_execs_cons (thn (h1 pins s σ H {D with nx:=R} I h) fun f s1 q=>?_);cases f with
 |next=>obtain⟨σ',H',I',q⟩:=q;exact h2 pins s1 σ' H' D I' (hR σ' H' q)
 |ret v=>exact q
 |brk=>exact q
 |cont=>exact q
theorem aB{n:Nat}(h:Nat.ble n 1000=true):n<=sizeLine:=vS (Nat.le_of_ble_eq_true h) (by decide)
end L2
namespace LM
noncomputable def cn(c:Nat):List Nat:=(List.range 64).filter c.testBit
theorem gX{c k:Nat}(hc:c<2^64):k∈cn c<->c.testBit k=true:=by
 unfold cn;rw[vT,vI];constructor
 ·exact fun h=>h.2
 ·intro h;refine⟨?_,h⟩;rcases Nat.lt_or_ge k 64 with q|q
  ·exact q
  ·rw[Nat.testBit_lt_two_pow (uI hc (Nat.pow_le_pow_right (by decide) q))]at h;cases h
theorem fW{c m n:Nat}(hm:c<2^m)(h:m<=n):(List.range m).filter c.testBit=(List.range n).filter c.testBit:=by
 obtain⟨d,rfl⟩:=Nat.exists_eq_add_of_le h
 induction d with
 |zero=>rfl
 |succ d ih=>rw[<-Nat.add_assoc,List.range_succ,vK,<-ih (by omega)];have e:c.testBit (m+d)=false:=Nat.testBit_lt_two_pow (uI hm (Nat.pow_le_pow_right (by decide) (by omega)));simp[e]
theorem length_le_of_subset{α:Type}[DecidableEq α]:∀{l1 l2:List α},l1.Nodup->(∀x∈l1,x∈l2)->l1.length<=l2.length
 | [],_,_,_=>vg _
 |x::l1,l2,nd,h=>by
  obtain⟨nx,nd⟩:=vh.mp nd;have hx:x∈l2:=h x uy;have ih:=length_le_of_subset (l1:=l1) (l2:=l2.erase x) nd fun y hy=>by have hne:y≠x:=fun e=>nx (e▸hy);exact(List.mem_erase_of_ne hne).mpr (h y (uv _ hy))
  rw[List.length_erase_of_mem hx]at ih;have:=List.length_pos_of_mem hx;rw[wm];omega
end LM
namespace My
open PySem L2 LM PyProof.Rows
theorem lQ(a b:Nat):Builtin.bitAnd (a:Int) (b:Int)=((a&&& b:Nat):Int):=by rw[bitAnd_pp (by omega) (by omega)];simp only[vb]
theorem rQ(c:Nat)(k:Int)(h:0<=k):decide (V.int (Builtin.bitAnd ((c:Int) / 2^k.toNat) 1)=V.int 1)=(decide (0<=k)&&c.testBit k.toNat):=by
 have e:(c:Int) / 2^k.toNat=((c / 2^k.toNat:Nat):Int):=by rw[Int.natCast_ediv,Int.natCast_pow];rfl
 have e2:Builtin.bitAnd ((c:Int) / 2^k.toNat) 1=((c / 2^k.toNat % 2:Nat):Int):=by rw[e];exact(lQ _ 1).trans (by rw[Nat.and_one_is_mod])
 rw[e2,Nat.testBit_eq_decide_div_mod_eq,uD h,Bool.true_and,vu,uH,uH];constructor
 ·intro z;have:=V.int.inj z;omega
 ·intro z;rw[z];rfl
theorem bits_le{c:Nat}(hc:c<2^64):Builtin.Int.intBits (c:Int)<=64:=by
 unfold Builtin.Int.intBits;by_cases h:(c:Int)==0
 ·rw[um h];omega
 ·rw[uo h];have h0:c≠0:=fun z=>h (by rw[z];rfl);have:c.log2<64:=(Nat.log2_lt h0).mpr hc;simp only[Int.natAbs_natCast];omega
theorem lP{c:Nat}(hc:c<2^64):(List.range (Builtin.Int.intBits (c:Int))).filter c.testBit=cn c:=by
 refine fW ?_ (bits_le hc);unfold Builtin.Int.intBits;by_cases h:(c:Int)==0
 ·rw[um h];have:(c:Int)=0:=eq_of_beq h;have:c=0:=by omega
  subst this;decide
 ·rw[uo h];simp only[Int.natAbs_natCast];exact Nat.lt_log2_self
theorem mX(c i:Nat):(decide ((0:Int)<=0+(i:Int))&&c.testBit ((0:Int)+(i:Int)).toNat)=c.testBit i:=by rw[uD (by omega),Bool.true_and];congr 1;omega
theorem gM(j:Nat):(1:Int)*2^((j:Int)).toNat=((2^j:Nat):Int):=by rw[Int.one_mul,vb,Int.natCast_pow];rfl
theorem jY(j:Int):(0:Int)<1*2^j.toNat:=by rw[Int.one_mul];exact Int.pow_pos (by decide)
theorem pP(k:Nat)(h:k<=64):((1:Int)*2^((k:Int)).toNat).natAbs.log2<9000:=by rw[gM,Int.natAbs_natCast,Nat.log2_two_pow];omega
theorem qg(c k:Nat):decide (V.int ((c:Int) / (1*2^((k:Int)).toNat) % 2)=V.int 1)=c.testBit k:=by
 have e:(c:Int) / (1*2^((k:Int)).toNat) % 2=((c / 2^k % 2:Nat):Int):=by rw[gM,Int.natCast_emod,Int.natCast_ediv];rfl
 rw[e,Nat.testBit_eq_decide_div_mod_eq,vu,uH,uH];constructor
 ·intro z;have:=V.int.inj z;omega
 ·intro z;rw[z];rfl
theorem sW(c:Int): -(2^64)<c % (2^(64:Int).toNat)/\c % (2^(64:Int).toNat)<2^64:=by
 have e:((2:Int)^(64:Int).toNat)=18446744073709551616:=by decide
 rw[e];omega
theorem p9(v:Int)(n:Nat):∃z:Nat,v % (1*2^((n:Int)).toNat)=(z:Int)/\z<2^n:=by
 have h0:(0:Int)<((2^n:Nat):Int):=by have:=Nat.two_pow_pos n;omega
 refine⟨(v % ((2^n:Nat):Int)).toNat,?_,?_⟩
 ·rw[gM,Int.toNat_of_nonneg (Int.emod_nonneg _ (by omega))]
 ·have h1:=Int.emod_lt_of_pos v h0;have h2:=Int.emod_nonneg v (show((2^n:Nat):Int)≠0 by omega);omega
noncomputable def isI:V->Bool
 | .int _=>true
 |_=>false
noncomputable def isB:V->Bool
 | .bl _=>true
 |_=>false
theorem qk(K:Frag){H:Hp}{x:V}{n:String}(ty:c0 K H x (.type n)):kitOne K (.type n) (.type "int")=some (isI x||isB x):=by cases ty<;>kernel_rfl
theorem oF(K:Frag){H:Hp}{x:V}{n:String}(ty:c0 K H x (.type n)):kitOne K (.type n) (.type "bool")=some (isB x):=by cases ty<;>kernel_rfl
theorem lH(K:Frag):kitOne K (.type "list") (.type "list")=some true:=by kernel_rfl
theorem oE(K:Frag):kitOne K (.type "tuple") (.type "tuple")=some true:=by kernel_rfl
theorem qL(z:Int):∃w:Nat,1+z % 8=(w:Int)/\0<w/\w<=8:=⟨(1+z % 8).toNat,by omega,by omega,by omega⟩
end My
namespace LM
open PyProof.Rows
noncomputable def t6(c:Nat):Nat:=((List.range 64).find? c.testBit).getD 64
end LM
namespace L2
open PySem PySem.Spec PyProof.Rows
section
variable{X:Cx}{K:Frag}
theorem g7(h:X.K=K):IxR X (sN K):=h▸aV
theorem gy(h:X.K=K):IxR X (sM K):=h▸ay
theorem pX(h:X.K=K)(hu:X.A.units+64<cLine):OpR X (compareOp .NotEq) (sL K):=h▸gP hu
end
theorem qO{n:Nat}{g:TG}{tt:TT}{te:TE}{σ0:St}{lo:Int}{Q:Hp->Prop}{D:Addr}{H:Hp}(Pv:Nat->List V->Hp->Prop)(h0:Pv 0 [] H)
  (hs:∀i acc H2,i<n->Pv i acc H2->g (.int (lo+i)) σ0 H2 fun σ2 H4=>tt σ2 H4 fun b H5=>if b=true then te σ2 H5 fun y H6=>H6 D=some (.lst acc)/\acc.length<sizeLine/\Pv (i+1) (acc++[y]) (upd H6 D (.lst (acc++[y])))else Pv (i+1) acc H5)
  (hd:∀acc H2,Pv n acc H2->Q H2):
  ∃W:Nat->Nat->List V->Hp->Prop,(∃m,W 0 m [] H)/\∀i m acc H2,W i m acc H2->
   ((Itr lo n).stop i H2/\Q H2)\/((Itr lo n).go i H2/\∃N:List V->Hp->Prop,(∀acc' H',N acc' H'->∃m',m'<m/\W (i+1) m' acc' H')/\∀x H3,(Itr lo n).yld i H2 x H3->g x σ0 H3 fun σ2 H4=>tt σ2 H4 fun b H5=>if b=true then te σ2 H5 fun y H6=>H6 D=some (.lst acc)/\acc.length<sizeLine/\N (acc++[y]) (upd H6 D (.lst (acc++[y])))else N acc H5):=
 hC (Q:=fun _ H=>Q H) Pv h0 hs hd
theorem qP{K:Frag}{a:Addr}{xs:List V}{g:TG}{tt:TT}{te:TE}{σ0:St}{Q:Hp->Prop}{D:Addr}{H:Hp}(Pv:Nat->List V->Hp->Prop)(h0:Pv 0 [] H)(hl:∀i acc H,i<=xs.length->Pv i acc H->SqL K H a xs)
  (hs:∀i x acc H2,xs[i]?=some x->Pv i acc H2->g x σ0 H2 fun σ2 H4=>tt σ2 H4 fun b H5=>if b=true then te σ2 H5 fun y H6=>H6 D=some (.lst acc)/\acc.length<sizeLine/\Pv (i+1) (acc++[y]) (upd H6 D (.lst (acc++[y])))else Pv (i+1) acc H5)
  (hd:∀acc H2,Pv xs.length acc H2->Q H2):
  ∃W:Nat->Nat->List V->Hp->Prop,(∃m,W 0 m [] H)/\∀i m acc H2,W i m acc H2->
   ((Itl K a).stop i H2/\Q H2)\/((Itl K a).go i H2/\∃N:List V->Hp->Prop,(∀acc' H',N acc' H'->∃m',m'<m/\W (i+1) m' acc' H')/\∀x H3,(Itl K a).yld i H2 x H3->g x σ0 H3 fun σ2 H4=>tt σ2 H4 fun b H5=>if b=true then te σ2 H5 fun y H6=>H6 D=some (.lst acc)/\acc.length<sizeLine/\N (acc++[y]) (upd H6 D (.lst (acc++[y])))else N acc H5):=
 ny (Q:=fun _ H=>Q H) Pv h0 hl hs hd
theorem oH{P:Program}{w:World}{k:Key}{u:Value}(r:RelV (kV k) u):(bo P w).is k u=true:=by
 cases k with
 |inl i=>obtain⟨t,e⟩:=(show ∃t,u=Value.int i t from r);subst e;exact ke P w i t
 |inr x=>obtain⟨t,e⟩:=(show ∃t,u=Value.str x t from r);subst e;exact kc P w x t
theorem iP{P:Program}{w:World}:∀{ks:List Key}{us:List Value},Vals (ks.map kV) us->ItemsAre (bo P w) ks us
 | [],_,r=>by rw[List.map_nil]at r;cases r;exact .nil
 |k::ks,_,r=>by
  rw[vi]at r;cases r with
  |cons h t=>exact .cons (oH h) (iP t)
section
variable{X:Cx}{pins:List (Addr×Obj)}{σ:St}{H:Hp}{s:Shared}{a:Addr}{y v:V}{u r:Value}{o:Option V}{A:Around}{E:Value->Shared->Prop}
theorem Inv.big(I:Inv X pins σ H s):sysModules<s.heap.objs.size:=by have h:mainGlobals<s.heap.objs.size:=(I.mod.glob.keeps I.bk).lt;exact Nat.lt_trans (by decide) h
theorem qx{h':Heap}{t':Nat}{ob:HO}(I:Inv X pins σ H s)(mu:Mut (H a))(hs:Heap.SameBut a s.heap h')(he:∃q,h'.get? a=some q)(new:bQ X.prog X.w (upd H a ob) h' a ob):
  Inv X pins σ (upd H a ob) {s with heap:=h',toks:=t'}:=
 I.write (x:=a) (e:=a) mu (.inl rfl) (fun b q hb z=>(hs.2 b hb).trans z) he new
end
section
variable{X:Cx}{k:Nat}{f:Addr}{fd:FuncData}{ps:List Str}{sp:Sp}
theorem Inv.track{pins:List (Addr×Obj)}{σ:St}{H:Hp}{s:Shared}{h':Heap}{D:Addr}{ys:List V}{its:List Value}{n t':Nat}(I:Inv X pins σ H s)(fD:f9 X pins H D)(k:∀b o,b≠D->s.heap.get? b=some o->h'.get? b=some o)
  (hv:Vals ys its) (hz:ys.length<=sizeLine) (g:h'.get? D=some {cls:=.type "list",data:=.seq its.toArray n}):Inv X pins σ (upd H D (.lst ys)) {s with heap:=h',toks:=t'}:=by
 obtain⟨f0,f1,f2,f3,f4,f5⟩:=fD;have nD:∀b u,H b=some u->b≠D:=fun b u e z=>by rw[z,f0]at e;cases e
 refine I.step (g':=s.gens) (d':=s.drawn) (ch:=[D]) (fun b hb=>?_) (fun b o _ _ hc e _=>k b o (fun z=>hc (by simp[z])) e) (fun b o _ _ hc e _=>⟨o.slots,k b o (fun z=>hc (by simp[z])) e⟩)
  (fun b o hc _ q=>by rw[ax (fun z=>hc (by simp[z]))];exact q) (fun b o hc e=>⟨o,k b o (fun z=>hc (by simp[z])) e⟩) (fun b xs e=>by rw[ax (nD b _ e)];exact e) (fun b o u e=>by rw[ax (nD b _ e)];exact e)
  (fun b ps e=>⟨#[],by rw[ax (nD b _ e),e];simp⟩) (fun m hm=>?_) (fun b u e=>?_) I.bare
 ·obtain rfl:b=D:=by simpa using hb
  exact⟨f3,f1,f4,f5⟩
 ·obtain⟨o,es,ep,ho,r⟩:=hm;exact⟨o,es,ep,k _ o (Ne.symm f1) ho,r⟩
 ·by_cases hbD:b=D
  ·subst hbD;rw[af]at e;cases e;exact⟨hz,its,n,hv,g⟩
  ·rw[ax hbD]at e;refine(I.hok b u e).stay (fun c v hc q=>k c v ?_ q) (fun c q=>?_) fun c xs q=>?_
   ·rcases hc with z|z
    ·rw[z];exact hbD
    ·exact nD c _ z
   ·rw[ax (nD c _ q)];exact q
   ·rw[ax (nD c _ q)];exact q
end
section
variable{X:Cx}{K:Frag}
theorem pQ{es:List Expr}{k:Nat}{t:TGs}{n:Nat}{pos:Pos}(hK:X.K=K)(hc:X.calm=true)(h:PGs X es t)
 (hn:(assignEach es X.env).length=n:=by rfl) (hst:(assignEach es X.env).findIdx? (·.1)=none:=by rfl):PG X (.Tuple es k pos) (qt K n t):=hK▸nZ hc h hn hst
theorem pq{n m i j:Nat}(hi:i<n)(hj:j<n)(hij:i≠j):∀x σ H R,σ.length=n+m->(∀(k:Nat),k<n->σ[k]?=some none)->qt K 2 (ku (eY i) (ku (eY j) rS)) x σ H R->
  qt K 2 (ku (eY i) (ku (eY j) rS)) x σ H fun σ2 H2=>Wk σ σ2/\R σ2 H2:=by
 intro x σ H R _ h0 h;obtain⟨a,xs,e,hq,hl,v,r,e1,v2,r2,e2,e3,h⟩:=h;refine⟨a,xs,e,hq,hl,v,r,e1,v2,r2,e2,e3,⟨by simp,fun k w e'=>?_⟩,h⟩;by_cases hk:k=i
 ·subst hk;rw[h0 _ hi]at e';cases e'
 ·by_cases hk2:k=j
  ·subst hk2;rw[h0 _ hj]at e';cases e'
  ·rw[List.getElem?_set_ne (Ne.symm hk2),List.getElem?_set_ne (Ne.symm hk)];exact e'
end
def TK(H H':Hp):Prop:=(∀a xs,H a=some (.tup xs)->H' a=some (.tup xs))/\∀a o xs,H a=some (.frz o (.tup xs))->H' a=some (.frz o (.tup xs))
theorem ao.tk{H H':Hp}(s:ao H H'):TK H H':=⟨fun _ _ e=>s _ _ e,fun _ _ _ e=>s _ _ e⟩
theorem TK.lst{H:Hp}{D:Addr}{xs:List V}{o:HO}(hD:H D=some (.lst xs)):TK H (upd H D o):=
 ⟨fun _ _ e=>by rw[ax (mj e hD (fun z=>nomatch z))];exact e,fun _ _ _ e=>by rw[ax (mj e hD (fun z=>nomatch z))];exact e⟩
theorem TK.sq{K:Frag}{H H':Hp}{a:Addr}{xs:List V}(t:TK H H')(h:SqT K H a xs):SqT K H' a xs:=by
 rcases h with(h|⟨o,h⟩)|h
 ·exact .inl (.inl (t.1 _ _ h))
 ·exact .inl (.inr ⟨o,t.2 _ _ _ h⟩)
 ·exact .inr h
theorem Paired.imp{α β:Type}{R R':α->β->Prop}(h:∀x y,R x y->R' x y){xs:List α}{ys:List β}(hI:Paired R xs ys):Paired R' xs ys:=by
 induction hI with
 |nil=>exact .nil
 |cons a b ih=>exact .cons (h _ _ a) (ih)
theorem bg{α β:Type}{R:α->β->Prop}:∀{xs:List α}{ys:List β}{i:Nat}{x:α},Paired R xs ys->xs[i]?=some x->∃y,ys[i]?=some y/\R x y
 |_,_,_,_,.nil,e=>by simp at e
 |_,_,0,_,.cons a _,e=>by simp at e;subst e;exact⟨_,rfl,a⟩
 |_,_,i+1,x,.cons _ b,e=>by obtain⟨y,h1,h2⟩:=bg (i:=i) (x:=x) b (by simpa using e);exact⟨y,by simpa using h1,h2⟩
theorem Paired.app{α β:Type}{R:α->β->Prop}{xs xs':List α}{ys ys':List β}(hI:Paired R xs ys):Paired R xs' ys'->Paired R (xs++xs') (ys++ys'):=by
 induction hI with
 |nil=>exact fun h=>h
 |cons a b ih=>exact fun h=>.cons a (ih h)
end L2
namespace PySem
def gA(h h':Heap)(e:Addr):Prop:=(∀b ob,h.get? b=some ob->h'.get? b=some ob)/\∃oe,h'.get? e=some oe/\oe.cls=.type "AttributeError"
namespace F
theorem gB:isSubtype (.type "AttributeError") (.type "AttributeError")=pure true:=by rw[isSubtype_type];kernel_rfl
end F
theorem ig{M:Model}{A:Around}{E:Value->Shared->Prop}{s:Shared}{α:Type}{v:Value}{name msg:Str}{Q:α->Shared->Prop}(hh:A.handled=none)(hm:msg.length<=sizeLine)
  (h:∀h' tk e,gA s.heap h' e->E (.ref e) {s with heap:=h',toks:=tk}):wpAny M A (raiseAttrError v name msg:Sem α) Q E s:=by
 unfold raiseAttrError;refine uf (wpAny_mkStr (uf ?_) hm);unfold newExc newTuple;refine uf (v8 ?_ (by size_fits));refine uf (m:=firstArgMember _ _) (wpAny_of_eq (a:=Value.none) (by simp only[firstArgMember];kernel_rfl) ?_);rw[show ∀l,ownMembersOf (.type "AttributeError") l= #[unsetMember,unsetMember]from fun _=>rfl];refine v8 ?_ (by size_fits);refine uf (wpAny_mkText ?_);unfold noteAttr;refine uf ?_;dsimp only;unfold lacksNameAndObj;dsimp only;refine uf (uf (wpAny_isInstance (T:="AttributeError") (b:=true) ⟨_,uK _ rfl,rfl⟩ F.gB ?_));simp only[Bool.not_true,ve,if_false];refine uf (wpAny_load (uK _ rfl) ?_);show wpAny M A (pure true) _ _ _;refine ug ?_;rw[um rfl];refine uf (wpAny_rule ?_);refine uf (wpAny_typeOf (T:="AttributeError") ⟨_,uK _ rfl,rfl⟩ ?_);dsimp only;refine wpAny_layMembers (uK _ rfl) rfl ?_;unfold raiseNew;refine uf (wpAny_handled ?_);rw[hh];refine uf (ug (wpAny_throw ?_));refine h _ _ _ ⟨fun b ob hb=>?_,_,Heap.get?_update_self _ (uK _ rfl) (Obj.isFreed_of_fields (Obj.data_mapFields rfl _)),Obj.cls_mapFields _ _⟩;rw[vp _ _ (Nat.ne_of_gt (uI (uw hb) (by simp)))];exact uh _ (uh _ hb)
section
variable{prog:Program}{w:World}{K:Type}[DecidableEq K]{knd:KeyKind prog w K}{A:Around}{E:Value->Shared->Prop}{s:Shared}
namespace F
theorem bG:plainId "dict.update.loop"=true:=by decide+kernel
theorem dh:entryFor table "dict.update.loop"=some Builtin.«dict.update.loop»:=entryFor_of_fast (by kernel_rfl)
end F
end
end PySem
namespace L2
open PySem PySem.Spec PyProof.Rows
section
variable{X:Cx}
def tY(K:Frag):List V->Hp->VK->Prop:=fun xs H Q=>∃(x c:V)(a:Addr)(ys:List V)(b:Bool)(cv:Value),xs=[x,c]/\x=.ref a/\SqT K H a ys/\RelV c cv/\(∀u,RelV c u->u=cv)/\kitOne K (.type "tuple") cv=some b/\Q (.bl b) H
theorem kE:ef X (.builtin "isinstance") (tY X.K):=by intro pins s σ H xs us Q I r h;obtain⟨x,c,a,ys,b,cv,rfl,rfl,hx,rc,uc,e,q⟩:=h;obtain⟨u1,u2,rfl,r1,r2⟩:=vals2 r;cases r1;obtain rfl:=uc u2 r2;obtain⟨its,rv,⟨o,h1,h2,_⟩,hz⟩:=I.tuple hx;exact vz PySem.W.kitx_tuple I.kIn ⟨o,h1,h2⟩ e (fun z=>nomatch z) fun tk=>⟨.bl b,H,I.tok _,rfl,q⟩
end
noncomputable def cJ:Key->PyData
 | .inl i=>.int i
 | .inr x=>.str x
noncomputable def cH(ks:List Key):PyData:=.tuple (ks.map cJ)
noncomputable def fX(c:List (List Key)):PyData:=.tuple (c.map cH)
noncomputable def qi:Key->Bool
 | .inl _=>true
 | .inr x=>PyData.canLay0 (.str x)
theorem qm(a b:Key):PyData.eqv (cJ a) (cJ b)=decide (a=b):=by
 cases a with
 |inl i=>
  cases b with
  |inl j=>
   show(i==j)=_;by_cases h:i=j
   ·subst h;simp
   ·simp[h]
  |inr y=>rfl
 |inr x=>
  cases b with
  |inl j=>rfl
  |inr y=>
   show(x==y)=_;by_cases h:x=y
   ·subst h;simp
   ·simp[h]
theorem gx:∀(a b:List Key),PyData.eqvAll (a.map cJ) (b.map cJ)=decide (a=b)
 | [],[]=>rfl
 | [],_::_=>rfl
 |_::_,[]=>rfl
 |x::a,y::b=>by
  show(PyData.eqv (cJ x) (cJ y)&&PyData.eqvAll (a.map cJ) (b.map cJ))=_;rw[qm,gx a b];by_cases h1:x=y
  ·by_cases h2:a=b
   ·simp[h1,h2]
   ·simp[h1,h2]
  ·simp[h1]
theorem hJ:∀(a b:List (List Key)),PyData.eqvAll (a.map cH) (b.map cH)=decide (a=b)
 | [],[]=>rfl
 | [],_::_=>rfl
 |_::_,[]=>rfl
 |x::a,y::b=>by
  show(PyData.eqvAll (x.map cJ) (y.map cJ)&&PyData.eqvAll (a.map cH) (b.map cH))=_;rw[gx,hJ a b];by_cases h1:x=y
  ·by_cases h2:a=b
   ·simp[h1,h2]
   ·simp[h1,h2]
  ·simp[h1]
theorem mG(a b:List (List Key)):PyData.eqv (fX a) (fX b)=decide (a=b):=hJ a b
theorem mq:∀(r:List Key),(∀k∈r,qi k=true)->PyData.canLayAll0 (r.map cJ)=true
 | [],_=>rfl
 |k::r,h=>by
  have h1:PyData.canLay0 (cJ k)=true:=by
   have:=h k (uy ..);cases k with
   |inl i=>rfl
   |inr x=>exact this
  show(PyData.canLay0 (cJ k)&&PyData.canLayAll0 (r.map cJ))=true;rw[h1,mq r fun x hx=>h x (uv _ hx)];rfl
theorem jo:∀(c:List (List Key)),(∀r∈c,∀k∈r,qi k=true)->PyData.canLayAll0 (c.map cH)=true
 | [],_=>rfl
 |r::c,h=>by show(PyData.canLayAll0 (r.map cJ)&&PyData.canLayAll0 (c.map cH))=true;rw[mq r (h r (uy ..)),jo c fun x hx=>h x (uv _ hx)];rfl
theorem mx:∀(r:List Key),PyData.depthAll (r.map cJ)=0
 | []=>rfl
 |k::r=>by show max (cJ k).depth (PyData.depthAll (r.map cJ))=0;rw[mx r];cases k<;>rfl
theorem kA:∀(c:List (List Key)),PyData.depthAll (c.map cH)<=1
 | []=>by show(0:Nat)<=1;decide
 |r::c=>by
  have h:=kA c;have h2:(cH r).depth<=1:=by show PyData.depthAll (r.map cJ)+1<=1;rw[mx];decide
  show max _ _<=1;exact Nat.max_le.mpr ⟨h2,h⟩
theorem qw(c:List (List Key)):(fX c).depth<=2:=by have:=kA c;show PyData.depthAll (c.map cH)+1<=2;omega
section
variable{P:Program}{w:World}
inductive bb(P:Program)(w:World)(h:Heap):List (List Key)->List Value->Prop
 |nil:bb P w h [] []
 |cons {k:List Key} {a:Addr} {ks:List (List Key)} {vs:List Value}:IsTupleKey (bo P w) h k a->bb P w h ks vs->bb P w h (k::ks) (.ref a::vs)
def bJ(P:Program)(w:World)(h:Heap)(c:List (List Key))(a:Addr):Prop:=
 (∀r∈c,∀k∈r,qi k=true)/\∃ob its n,h.get? a=some ob/\ob.cls=.type "tuple"/\ob.data=.seq its n/\bb P w h c its.toList
theorem bb.one{h:Heap}{x y:List (List Key)}{us:List Value}(p:bb P w h x us)(q:bb P w h y us):x=y:=by
 induction p generalizing y with
 |nil=>cases q;rfl
 |cons p1 _ ih=>
  cases q with
  |cons q1 q2=>rw[p1.inj q1,ih q2]
theorem bJ.one{h:Heap}{x y:List (List Key)}{a:Addr}(p:bJ P w h x a)(q:bJ P w h y a):x=y:=by obtain⟨_,ob,its,n,p1,_,p3,p4⟩:=p;obtain⟨_,ob',its',n',q1,_,q3,q4⟩:=q;rw[p1]at q1;cases q1;rw[p3]at q3;injection q3 with e _;subst e;exact p4.one q4
theorem bb.stay{h h':Heap}{c:List (List Key)}{us:List Value}{d:Addr}{o:Obj}{es:Array DictEntry}{ep:Nat}(p:bb P w h c us)(ho:h.get? d=some o)(hd:o.data=.dict es ep)(hs:Heap.SameBut d h h'):bb P w h' c us:=by
 induction p with
 |nil=>exact .nil
 |cons p1 _ ih=>exact .cons (p1.keeps ho hd hs) ih
theorem bJ.stay{h h':Heap}{c:List (List Key)}{a d:Addr}{o:Obj}{es:Array DictEntry}{ep:Nat}(p:bJ P w h c a)(ho:h.get? d=some o)(hd:o.data=.dict es ep)(hs:Heap.SameBut d h h'):bJ P w h' c a:=by
 obtain⟨l,ob,its,n,p1,p2,p3,p4⟩:=p;have ne:a≠d:=fun z=>by rw[z,ho]at p1;cases p1;rw[hd]at p3;cases p3
 exact⟨l,ob,its,n,(hs.2 a ne).trans p1,p2,p3,p4.stay ho hd hs⟩
theorem bJ.tyIs{s:Shared}{c:List (List Key)}{a:Addr}(p:bJ P w s.heap c a):s.TypeIs (.ref a) "tuple":=by obtain⟨_,ob,_,_,p1,p2,_⟩:=p;exact⟨ob,p1,p2⟩
theorem ie{h:Heap}{ks:List Key}{us:List Value}(hI:ItemsAre (bo P w) ks us):∃as,ReadsAll h us (ks.map cJ) as:=by
 induction hI with
 |nil=>exact⟨_,.nil⟩
 |cons p1 p2 ih=>
  obtain⟨as,r⟩:=ih;rcases a8 p1 with⟨i,t,rfl,rfl⟩|⟨x,t,rfl,rfl⟩
  ·exact⟨_,.cons (.int i t) r⟩
  ·exact⟨_,.cons (.str x t) r⟩
theorem kS{h:Heap}{c:List (List Key)}{us:List Value}(hI:bb P w h c us):∃as,ReadsAll h us (c.map cH) as:=by
 induction hI with
 |nil=>exact⟨_,.nil⟩
 |cons p1 p2 ih=>obtain⟨as,r⟩:=ih;obtain⟨ob,its,n,q1,q2,q3,q4⟩:=p1;obtain⟨bs,r2⟩:=ie (h:=h) q4;exact⟨_,.cons (.tuple q1 q2 q3 r2) r⟩
theorem bJ.reads{h:Heap}{c:List (List Key)}{a:Addr}(p:bJ P w h c a):∃as,Reads h (.ref a) (fX c) as:=by obtain⟨_,ob,its,n,p1,p2,p3,p4⟩:=p;obtain⟨as,r⟩:=kS p4;exact⟨_,.tuple p1 p2 p3 r⟩
noncomputable def jz(P:Program)(w:World)(c:List (List Key)):Int:=reduceHash (Builtin.Tuple.tupleHashOf (c.map (tupleKeyHash (bo P w))))
noncomputable def dE(c:List (List Key)):Nat:=(c.map fun r=>r.length+1).sum
variable{A:Around}{E:Value->Shared->Prop}{s:Shared}
theorem oR{c:List (List Key)}{a:Addr}{Q:Int->Shared->Prop}(room:A.units+3<cLine)(p:bJ P w s.heap c a)(q:Q (jz P w c) {s with toks:=s.toks+(dE c+1)}):
  wpAny (model P w) A (pyHash (.ref a)) Q E s:=by
 have ty:=p.tyIs;obtain⟨_,ob,its,n,p1,_,p3,p4⟩:=p;unfold pyHash
 first|unfold pyHashByItsType|skip
 first|refine uf (wpAny_cRoomFor_or (.inr (by omega)) ?_)|skip
 refine uf (wpAny_specialOf ty F.slot_tuple_hash.lookup ?_);show wpAny _ _ (if(some (Value.builtin "tuple.__hash__")==some Value.none)=true then _ else _) Q E s;rw[uo (by rw[beq_builtin_none];exact uz)];refine uf (wpAny_specialOf ty F.slot_tuple_hash.lookup ?_);show wpAny _ _ (callSpecialIfBoundUnlessNone? (.ref a) "__hash__" _>>= _) Q E s;refine uf (wpAny_callSpecialIfBoundUnlessNone?_slot ty F.slot_tuple_hash (wpAny_call_entry F.slot_tuple_hash ty F.entry_tuple_hash ?_ (F.args_tuple_hash_1 _)));show wpAny _ _ (Builtin.Tuple.tupleItemsOf (.ref a)>>= _) _ _ s;refine uf (wpAny_tupleItemsOf p1 p3 (uf ?_));rw[<-Array.forIn_toList];refine wpAny_forIn_list _ (fun left (acc:Array Int) s'=>∃c1 c2,c=c1++c2/\bb P w s.heap c2 left/\acc.toList=c1.map (tupleKeyHash (bo P w))/\s'={s with toks:=s.toks+dE c1}) _ ?_ ?_ _ _ ⟨[],c,rfl,p4,rfl,rfl⟩
 ·rintro u left acc s' ⟨c1,c2,rfl,r,e,rfl⟩;cases r with
  | @cons k b ks vs r1 r2=>
   refine uf (wpAny_pyHash_tuple (ks:=k) (by simp only[Around.in1_units];omega) r1 ?_);have fin:∃d1 d2,c1++k::ks=d1++d2/\bb P w s.heap d2 left/\(acc.push (tupleKeyHash (bo P w) k)).toList=d1.map (tupleKeyHash (bo P w))/\({s with toks:=s.toks+dE c1+(k.length+1)}:Shared)={s with toks:=s.toks+dE d1}:=
    ⟨c1++[k],ks,by simp,r2,by simp[e],by simp[dE,Nat.add_assoc]⟩
   first
    |exact ug fin
    |exact uf (ug (ug fin))
 ·rintro acc s' ⟨c1,c2,rfl,r,e,rfl⟩;cases r;rw[vn]at q;show wpAny _ _ (retInt (Builtin.Tuple.tupleHashOf acc.toList)) _ _ _;rw[e];refine wpAny_ret_mkInt ?_;unfold jz reduceHash at q;generalize Builtin.Tuple.tupleHashOf (c1.map (tupleKeyHash (bo P w)))=z at q ⊢;show wpAny _ _ (if(decide (-(2:Int)^63<=z)&&decide (z<2^63))=true then _ else _) Q E _;by_cases hz:(decide (-(2:Int)^63<=z)&&decide (z<2^63))=true
  ·rw[um hz]at q ⊢;exact ug (by simpa[Nat.add_assoc]using q)
  ·rw[uo hz]at q ⊢;exact uf (wpAny_rule (ug (by simpa[Nat.add_assoc]using q)))
theorem rZ{x y:List (List Key)}{a b:Addr}{Q:Bool->Shared->Prop}(room:A.units+3<cLine)(p:bJ P w s.heap x a)(q:bJ P w s.heap y b)(h:Q (decide (x=y)) s):wpAny (model P w) A (eqBool (.ref a) (.ref b)) Q E s:=by obtain⟨as,ra⟩:=p.reads;obtain⟨bs,rb⟩:=q.reads;have dx:=qw x;have dm:=Nat.min_le_left (fX x).depth (fX y).depth;rw[<-mG]at h;exact SeqAt.eqAt_reads _ _ A s _ _ _ _ ra rb (jo x p.1) (jo y q.1) (by omega) P w E Q h
end
section
variable{P:Program}{w:World}{A:Around}{E:Value->Shared->Prop}{s:Shared}
theorem mT{k:List Key}{a:Addr}(m:Nat){Q:Bool->Shared->Prop}(p:IsTupleKey (bo P w) s.heap k a)(q:Q true s):wpAny (model P w) A (eqIsQuiet (m+1) (.ref a)) Q E s:=by
 have ty:=p.typeIs;obtain⟨ob,its,n,p1,_,p3,p4⟩:=p;unfold eqIsQuiet;refine uf (wpAny_specialOf ty F.slot_tuple_eq.lookup ?_);show wpAny _ _ (isInstance (.ref a) (.type "tuple")>>= _) _ _ s;refine uf (wpAny_isInstance ty isSubtype_tuple_tuple ?_);simp only[Bool.not_true,ve,if_false];refine uf (wpAny_seqItems p1 p3 (uf ?_));show wpAny _ _ (forIn its _ _) _ _ s;rw[<-Array.forIn_toList];refine wpAny_forIn_list _ (fun left r s'=>r.1=none/\s'=s/\∀v∈left,carriedByValue v=true) _ ?_ ?_ _ _ ⟨rfl,rfl,p4.byValue⟩
 ·rintro u left r s' ⟨hr,rfl,all⟩;rw[eqIsQuiet_byValue m (all u uy)];refine uf (ug ?_);simp only[Bool.not_true,ve,if_false];exact ug ⟨rfl,rfl,fun z hz=>all z (uv _ hz)⟩
 ·rintro⟨r1,r2⟩ s' ⟨hr,rfl,_⟩;simp only at hr;subst hr;exact ug q
theorem nA{c:List (List Key)}{a:Addr}{Q:Bool->Shared->Prop}(p:bJ P w s.heap c a)(q:Q true s):wpAny (model P w) A (eqIsQuiet 8 (.ref a)) Q E s:=by
 have ty:=p.tyIs;obtain⟨_,ob,its,n,p1,_,p3,p4⟩:=p;unfold eqIsQuiet;refine uf (wpAny_specialOf ty F.slot_tuple_eq.lookup ?_);show wpAny _ _ (isInstance (.ref a) (.type "tuple")>>= _) _ _ s;refine uf (wpAny_isInstance ty isSubtype_tuple_tuple ?_);simp only[Bool.not_true,ve,if_false];refine uf (wpAny_seqItems p1 p3 (uf ?_));show wpAny _ _ (forIn its _ _) _ _ s;rw[<-Array.forIn_toList];refine wpAny_forIn_list _ (fun left r s'=>r.1=none/\s'=s/\∃c2,bb P w s.heap c2 left) _ ?_ ?_ _ _ ⟨rfl,rfl,c,p4⟩
 ·rintro u left r s' ⟨hr,rfl,c2,r2⟩;cases r2 with
  |cons r3 r4=>refine uf (mT 6 r3 ?_);simp only[Bool.not_true,ve,if_false];exact ug ⟨rfl,rfl,_,r4⟩
 ·rintro⟨r1,r2⟩ s' ⟨hr,rfl,_⟩;simp only at hr;subst hr;exact ug q
end
noncomputable def bV(P:Program)(w:World):HeapKind P w (List (List Key)) where
 is:=bJ P w
 hash:=jz P w
 draws:=fun c=>dE c+1
 room:=fun A=>A.units+3<cLine
 inj:=fun p q=>p.one q
 keeps:=fun p ho hd hs=>p.stay ho hd hs
 pyHash:=fun hu p q=>oR hu p q
 eqBool:=fun hu p q h=>rZ hu p q h
 quiet:=fun p q=>nA p q
noncomputable abbrev Col:=List (List Key)
noncomputable abbrev CT:=List (Col×Addr×V)
noncomputable def cp(a:Addr)(o:Obj):HO:=.ext fun h=>h.get? a=some o
theorem jl{P:Program}{w:World}{H:Hp}{h:Heap}{a:Addr}{o:Obj}(e:h.get? a=some o):bQ P w H h a (cp a o):=⟨e,⟨o,e⟩,fun _ _ e1 k=>k o e1⟩
noncomputable def cY:Obj:={cls:=.type "dict",data:=.dict #[]}
def CTv:CT->List (Col×Addr×Value)->Prop:=Paired fun(t:Col×Addr×V) (v:Col×Addr×Value)=>t.1=v.1/\t.2.1=v.2.1/\RelV t.2.2 v.2.2
structure jG(P:Program)(w:World)(o:Obj)(T:CT):Prop where
 ex:o.ExactDict
 len:T.length<=sizeLine
 es:∃es ep vs,o.data=.dict es ep/\es.toList=vs.map (entryOfKey (bV P w))/\CTv T vs/\(vs.map (·.1)).Nodup
theorem hZ(P:Program)(w:World):jG P w cY []:=⟨⟨rfl,rfl,rfl⟩,vg _,#[],0,[],rfl,rfl,.nil,List.nodup_nil⟩
def dR(K:Frag)(H:Hp)(b:Addr)(c:Col):Prop:=(∀r∈c,∀k∈r,qi k=true)/\∃xs,SqT K H b xs/\Paired (fun(v:V) (r:List Key)=>∃a,v=.ref a/\SqT K H a (r.map kV)) xs c
theorem dR.tk{K:Frag}{H H':Hp}{b:Addr}{c:Col}(t:TK H H')(h:dR K H b c):dR K H' b c:=by obtain⟨l,xs,h1,h2⟩:=h;exact⟨l,xs,t.sq h1,Paired.imp (fun _ _ ⟨a,e,z⟩=>⟨a,e,t.sq z⟩) h2⟩
theorem TK.obj{H:Hp}{D:Addr}{ob:Obj}{o:HO}(hD:H D=some (cp D ob)):TK H (upd H D o):=
 ⟨fun _ _ e=>by rw[ax (mj e hD (fun z=>nomatch z))];exact e,fun _ _ _ e=>by rw[ax (mj e hD (fun z=>nomatch z))];exact e⟩
noncomputable def atT(T:CT)(c:Col):Option V:=(T.find? fun t=>decide (t.1=c)).map (·.2.2)
noncomputable def cZ(T:CT)(c:Col)(b:Addr)(v:V):CT:=if(T.any fun t=>decide (t.1=c))=true then T.map (fun t=>if t.1=c then(t.1,t.2.1,v)else t)else T++[(c,b,v)]
section
variable{X:Cx}{pins:List (Addr×Obj)}{σ:St}{H:Hp}{s:Shared}
theorem dR.is{b:Addr}{c:Col}(I:Inv X pins σ H s)(h:dR X.K H b c):bJ X.prog X.w s.heap c b:=by
 obtain⟨l,xs,h1,h2⟩:=h;obtain⟨its,rv,⟨ob,e1,e2,n,e3⟩,_⟩:=I.tuple h1;refine⟨l,ob,its.toArray,n,e1,e2,e3,?_⟩;have key:∀{xs:List V}{its:List Value}{c:Col},Vals xs its->Paired (fun(v:V) (r:List Key)=>∃a,v=.ref a/\SqT X.K H a (r.map kV)) xs c->bb X.prog X.w s.heap c its:=by
  intro xs its c rv pr
  induction pr generalizing its with
  |nil=>cases rv;exact .nil
  |cons p1 _ ih=>
   obtain⟨a,rfl,ha⟩:=p1;cases rv with
   |cons r1 r2=>cases r1;obtain⟨its2,rv2,⟨ob2,f1,f2,n2,f3⟩,_⟩:=I.tuple ha;exact .cons ⟨ob2,its2.toArray,n2,f1,f2,f3,by simpa using iP rv2⟩ (ih r2)
 simpa using key rv h2
theorem qz{T:CT}{vs:List (Col×Addr×Value)}(hI:CTv T vs):∀v∈vs,∃t∈T,t.1=v.1/\t.2.1=v.2.1:=by
 induction hI with
 |nil=>exact fun v hv=>by cases hv
 |cons a b ih=>
  intro v hv;rcases uY.mp hv with e|e
  ·subst e;exact⟨_,uy ..,a.1,a.2.1⟩
  ·obtain⟨t,ht,h⟩:=ih v e;exact⟨t,uv _ ht,h⟩
theorem jG.dict{d:Addr}{o:Obj}{T:CT}(I:Inv X pins σ H s)(hd:H d=some (cp d o))(ho:jG X.prog X.w o T)(hk:∀t∈T,dR X.K H t.2.1 t.1):∃vs,CTv T vs/\s.heap.DictOfH (bV X.prog X.w) d vs:=by obtain⟨es,ep,vs,h1,h2,h3,h4⟩:=ho.es;have e:s.heap.get? d=some o:=(I.hok d _ hd).1;refine⟨vs,h3,o,es,ep,e,ho.ex,h1,h2,fun v hv=>?_,h4⟩;obtain⟨t,ht,e1,e2⟩:=qz h3 v hv;rw[<-e1,<-e2];exact(hk t ht).is I
theorem g9{T:CT}{vs:List (Col×Addr×Value)}(h:CTv T vs):T.length=vs.length:=uL h
theorem qN{c:Col}{T:CT}{vs:List (Col×Addr×Value)}(hI:CTv T vs):(atT T c=none/\atKey vs c=none)\/∃v p,atT T c=some v/\atKey vs c=some p/\RelV v p.2:=by
 induction hI with
 |nil=>exact .inl ⟨rfl,rfl⟩
 | @cons t u _ _ a b ih=>
  by_cases h:t.1=c
  ·have h':u.1=c:=a.1.symm.trans h;refine .inr ⟨t.2.2,u.2,?_,?_,a.2.2⟩
   ·simp[atT,List.find?_cons,h]
   ·simp[atKey,List.find?_cons,h']
  ·have h':¬u.1=c:=fun z=>h (a.1.trans z);have ih:=ih;simpa[atT,atKey,List.find?_cons,h,h']using ih
theorem rY{c:Col}{T:CT}{vs:List (Col×Addr×Value)}(hI:CTv T vs):(T.any fun t=>decide (t.1=c))=(atKey vs c).isSome:=by
 induction hI with
 |nil=>exact rfl
 | @cons t u _ _ a b ih=>
  have ih:=ih;rw[List.any_cons,ih];by_cases h:t.1=c
  ·have h':u.1=c:=a.1.symm.trans h;simp[atKey,List.find?_cons,h,h']
  ·have h':¬u.1=c:=fun z=>h (a.1.trans z);simp[atKey,List.find?_cons,h,h']
theorem rX{c:Col}{v:V}{u:Value}(r:RelV v u){T:CT}{vs:List (Col×Addr×Value)}(hI:CTv T vs):CTv (T.map fun t=>if t.1=c then(t.1,t.2.1,v)else t) (vs.map (putAt c u)):=by
 induction hI with
 |nil=>exact .nil
 | @cons t q _ _ a b ih=>
  rw[vi,vi];refine .cons ?_ (ih);unfold putAt;by_cases h:t.1=c
  ·rw[um h,um (a.1.symm.trans h)];exact⟨a.1,a.2.1,r⟩
  ·rw[uo h,uo (fun z=>h (a.1.trans z))];exact a
theorem oQ{c:Col}{b:Addr}{v:V}{u:Value}(r:RelV v u){T:CT}{vs:List (Col×Addr×Value)}(h:CTv T vs):CTv (cZ T c b v) (storedH vs c b u):=by
 unfold cZ storedH;rw[rY h];split
 ·exact rX r h
 ·exact Paired.app h (.cons ⟨rfl,rfl,r⟩ .nil)
theorem jT(T:CT)(c:Col)(b:Addr)(v:V):(cZ T c b v).length<=T.length+1:=by
 unfold cZ;split
 ·rw[uj];omega
 ·rw[uV];simp
end
def qT:TE:=fun _ H Q=>∀p,H p=none->(p==sysModules)=false->Q (.ref p) (upd H p (cp p cY))
def cu(P:Program)(w:World)(K:Frag)(H:Hp)(d:Addr)(o:Obj)(T:CT):Prop:=H d=some (cp d o)/\jG P w o T/\(d==sysModules)=false/\∀t∈T,dR K H t.2.1 t.1
def sI(P:Program)(w:World)(K:Frag)(td ty tv:TE):TS:=fun D σ H=>tv σ H fun v H1=>td σ H1 fun x H2=>ty σ H2 fun y H3=>∃d o T b c,x=.ref d/\cu P w K H3 d o T/\y=.ref b/\dR K H3 b c/\T.length<1000/\∀o',jG P w o' (cZ T c b v)->D.nx σ (upd H3 d (cp d o'))
section
variable{X:Cx}{o i e f value:Expr}{td ty tv tx:TE}{pos pos' apos cpos:Pos}
theorem j0:PE X (.Dict [] [] pos) qT:=fun pins s σ H Q I h=>wpAny_Dict_empty ⟨.ref s.heap.objs.size,_,I.laid (a:=s.heap.objs.size) (o:=cp s.heap.objs.size cY) (t':=s.toks) (fun _ _ q=>uh _ q) (uA _) (jl (uK _ rfl)),rfl,h _ (I.hok.fresh (uA _)) (beq_eq_false_iff_ne.mpr (Ne.symm (uX I.big)))⟩
theorem md(hu:X.A.units+64<cLine)(ho:PE X o td)(hi:PE X i ty)(hv:PE X value tv)(hs:swapsWith value (some (.Subscript o i pos')) pos.line X.env=pure false):
  PS X (.Assign [.Subscript o i pos'] value pos) (sI X.prog X.w X.K td ty tv):=by
 intro pins s σ H D I h;refine wpAny_Assign_Subscript (thn (hv pins s σ H _ I h) fun r s1 hPz=>L2.ep3 hPz fun v H1 I1 rv q1=>thn (ho pins s1 σ H1 _ I1 q1) fun u s2 hPz=>L2.ep3 hPz fun x H2 I2 rx q2=>thn (hi pins s2 σ H2 _ I2 q2) fun iv s3 hPz=>?_) hs;obtain⟨y,H3,I3,ry,d,ob,T,b,c,ex,hc,ey,hb,hl,q3⟩:=hPz;subst ex ey;cases rx;cases ry;obtain⟨h1,h2,h3,h4⟩:=hc;obtain⟨vs,rT,DD⟩:=h2.dict I3 h1 h4;have lt:=g9 rT;have sl:(1000:Nat)<=sizeLine:=by decide
 refine wpAny_setItem_heap (hsz:=by omega) (show X.A.in1.units+3<cLine by simp only[Around.in1_units];omega) (hb.is I3) DD fun h' DD' hs'=>?_;obtain⟨ob',es',ep',e1,e2,e3,e4,_,e6⟩:=DD';have ho':jG X.prog X.w ob' (cZ T c b v):=⟨e2,by have:=jT T c b v;omega,es',ep',_,e3,e4,oQ rv rT,e6⟩;exact⟨σ,_,qx I3 (by rw[h1];exact True.intro) hs' ⟨ob',e1⟩ (jl e1),q3 ob' ho'⟩
end
section
variable{P:Program}{w:World}{A:Around}{E:Value->Shared->Prop}{s:Shared}{it d:Addr}{i ep:Nat}{od:Obj}{es:Array DictEntry}
theorem lI{Q:Value->Shared->Prop}(nm:(d==sysModules)=false)(g:s.heap.get? d=some od)(x:od.ExactDict)(gd:od.data=.dict es ep)
  (q:Q (.ref s.heap.objs.size) {s with heap:=s.heap.push {cls:=.type "dict_keyiterator",data:=.fields #[.ref d,.int 0 0,.int es.size 0,.int ep 0]}}):wpAny (model P w) A (pyIter (.ref d)) Q E s:=by
 have ty:s.TypeIs (.ref d) "dict":=⟨od,g,x.1⟩;refine wpAny_pyIter_slot ty F.slot_dict_iter (wpAny_call_entry F.slot_dict_iter ty F.entry_dict_iter ?_ (F.args_dict_iter_1 _));unfold Builtin.«dict.__iter__» Builtin.Dict.dictSlotNone;refine uf (uf (wpAny_notOrdered_dict ty ?_));refine ug ?_;refine uf (show wpAny (model P w) A.in1 (pure d) _ _ _ from ug ?_);unfold Builtin.Dict.showsAll;rw[uo (by rw[nm];exact uz)];refine uf (ug (uf (wpAny_dictEntries g gd (uf (wpAny_dictEpoch g gd ?_)))));refine uf (v8 (ug ⟨_,rfl,"dict_keyiterator",_,⟨_,uK _ rfl,rfl⟩,v7.lookup,?_⟩));simpa[rawInt]using q
theorem nh{Q:Option Value->Shared->Prop}{en:DictEntry}(hit:s.heap.IsKeyIter it d i es.size ep)(g:s.heap.get? d=some od)(gd:od.data=.dict es ep)(hx:es[i]?=some en)
  (q:∀h',h'.IsKeyIter it d (i+1) es.size ep->Heap.SameBut it s.heap h'->Q (some en.key) {s with heap:=h'}):wpAny (model P w) A (pyNext (.ref it)) Q E s:=by
 obtain⟨oi,gi,ci,di⟩:=id hit;unfold pyNext;refine uf (wpAny_attempt (wpAny_callSpecial?_slot (name:=Str.ofString "__next__") hit.typeIs v7 (wpAny_call_entry v7 hit.typeIs F.entry_dict_keyiterator_next ?_ (F.args_dict_keyiterator_next_1 _))));refine uf (ug (uf (uf ?_)))
 first|refine uf (wpAny_typeNameOfWhole_keyiter hit.typeIs (ug ?_))|refine uf (wpAny_typeNameOf_keyiter hit.typeIs (ug ?_))
 refine uf (wpAny_fieldsOf gi di ?_);have nown:Builtin.Dict_items.ownsTuple "dict_keyiterator"=false:=by decide
 simp only[nown,ve,if_false];show wpAny _ _ (if(Value.ref d==Value.none)=true then _ else _) _ _ s;rw[uo (show ¬((Value.ref d==Value.none)=true)from uz)];refine uf (ug (uf (wpAny_dictEntries g gd ?_)));rw[uo (by simp)];refine uf (ug (uf (wpAny_dictEpoch g gd ?_)));rw[uo (by simp)];refine ug ?_;simp only[show ¬((i:Int)<0)from by omega,if_false,vb,hx];refine uf ?_
 first|refine uf (wpAny_typeNameOfWhole_keyiter hit.typeIs (ug ?_))|refine uf (wpAny_typeNameOf_keyiter hit.typeIs (ug ?_))
 refine uf (wpAny_isOneOf_keyiter hit.typeIs ?_);show wpAny _ _ (setField (.ref it) 1 (rawInt ((i:Int)+1))>>= _) _ _ s;refine uf (wpAny_setField gi di (by simp) ?_);have nx:(s.heap.update it (Obj.mapFields (·.setIfInBounds 1 (rawInt ((i:Int)+1))))).IsKeyIter it d (i+1) es.size ep:=
  ⟨_,Heap.get?_update_self _ gi (Obj.isFreed_of_fields (Obj.data_mapFields di _)),(Obj.cls_mapFields ..).trans ci,by rw[Obj.data_mapFields di];simp[rawInt]⟩
 refine uf (wpAny_holding (uf (wpAny_isOneOf_keyiter (s:={s with heap:=s.heap.update it (Obj.mapFields (·.setIfInBounds 1 (rawInt ((i:Int)+1))))}) nx.typeIs ?_)));show wpAny _ _ (pure en.key) _ _ _;exact ug (ug ⟨_,rfl,ug (q _ nx (Heap.SameBut.update ..))⟩)
theorem oG{Q:Option Value->Shared->Prop}(hh:A.handled=none)(hit:s.heap.IsKeyIter it d i es.size ep)(g:s.heap.get? d=some od)(gd:od.data=.dict es ep)(hx:es.size<=i)
  (q:∀h',Heap.ExtBut it s.heap h'->Q none {s with heap:=h'}):wpAny (model P w) A (pyNext (.ref it)) Q E s:=by
 obtain⟨oi,gi,ci,di⟩:=id hit;unfold pyNext;refine uf (wpAny_attempt (wpAny_callSpecial?_slot (name:=Str.ofString "__next__") hit.typeIs v7 (wpAny_call_entry v7 hit.typeIs F.entry_dict_keyiterator_next ?_ (F.args_dict_keyiterator_next_1 _))));refine uf (ug (uf (uf ?_)))
 first|refine uf (wpAny_typeNameOfWhole_keyiter hit.typeIs (ug ?_))|refine uf (wpAny_typeNameOf_keyiter hit.typeIs (ug ?_))
 refine uf (wpAny_fieldsOf gi di ?_);have nown:Builtin.Dict_items.ownsTuple "dict_keyiterator"=false:=by decide
 simp only[nown,ve,if_false];show wpAny _ _ (if(Value.ref d==Value.none)=true then _ else _) _ _ s;rw[uo (show ¬((Value.ref d==Value.none)=true)from uz)];refine uf (ug (uf (wpAny_dictEntries g gd ?_)));rw[uo (by simp)];refine uf (ug (uf (wpAny_dictEpoch g gd ?_)));rw[uo (by simp)];refine ug ?_;simp only[show ¬((i:Int)<0)from by omega,if_false,vb,Array.getElem?_eq_none hx];refine uf ?_
 first|refine uf (wpAny_typeNameOfWhole_keyiter hit.typeIs (ug ?_))|refine uf (wpAny_typeNameOf_keyiter hit.typeIs (ug ?_))
 show wpAny _ _ (setField (.ref it) 0 .none>>= _) _ _ s;refine uf (wpAny_setField gi di (by simp) ?_);show wpAny _ _ (newExc (.type "StopIteration") []>>= _) _ _ _;simp only[newExc,newTuple];refine uf (uf (v8 ?_ (by size_fits)));refine uf (m:=firstArgMember _ _) (wpAny_of_eq (a:=Value.none) (by first|rfl|(simp only[firstArgMember];rfl)) (v8 ?_ (by size_fits)));simp only[raiseNew];refine uf (wpAny_handled ?_);rw[show A.in1.handled=none from hh];refine uf (ug (wpAny_throw ?_));refine uf (wpAny_isInstance (b:=true) (T:="StopIteration") ⟨_,uK _ rfl,rfl⟩ isSubtype_stop ?_);exact ug (q _ (((Heap.SameBut.update ..).extBut.push _).push _))
end
noncomputable def Itc(d:Addr)(o:Obj)(T:CT):It:=
 ⟨fun i H=>H d=some (cp d o)/\i<T.length,fun i H x H'=>H'=H/\∃t,T[i]?=some t/\x=.ref t.2.1,fun i H=>H d=some (cp d o)/\T.length<=i⟩
theorem nJ{P:Program}{w:World}{K:Frag}{tg:Expr}(d it:Addr)(o:Obj)(T:CT){es:Array DictEntry}{ep:Nat}(hd:o.data=.dict es ep)(hT:∃vs,es.toList=vs.map (entryOfKey (bV P w))/\CTv T vs):
  Turn P w K tg (Itc d o T) [it] it (fun i h=>h.IsKeyIter it d i es.size ep) where
 mem:=by simp
 obj:=fun i h st b hb=>by
  have e:b=it:=by simpa using hb
  subst e;obtain⟨o,e,c,d⟩:=st;exact⟨o,e,fun v z=>by rw[d]at z;cases z⟩
 keep:=fun i h h' st k=>st.at fun o e=>k it (by simp) o e
 item:=by
  intro X hP hw hK hc i pins s σ H E I hf st hg;obtain⟨ha,hi⟩:=hg;obtain⟨vs,e1,e2⟩:=hT;have lt:=g9 e2;have g:s.heap.get? d=some o:=(I.hok d _ ha).1;obtain⟨t,ht⟩:∃t,T[i]?=some t:=⟨T[i],by simp[hi]⟩;obtain⟨v,hv,r1,r2,r3⟩:=bg e2 ht;have he:es[i]?=some (entryOfKey (bV P w) v):=by rw[<-uE,e1,uU,hv];rfl
  obtain⟨f0,f1,f2,f3,f4,f5⟩:=hf it (by simp);refine nh st g hd he fun h' st' sb=>?_;have I1:Inv X pins σ H {s with heap:=h'}:=I.turned (t':=s.toks) (fun b o hb e=>(sb.2 b hb).trans e) f0 f1 f3 f4 f5;obtain⟨oi,e,c,d'⟩:=id st';exact⟨_,rfl,oK (s:={s with heap:=h'}) e c d' (by decide) ⟨.ref t.2.1,H,I1,by rw[r2];rfl,⟨rfl,t,ht,rfl⟩,st',fun b hb=>(hf b hb).1⟩⟩
 done:=by
  intro X hP hw hK hc i pins s σ H E I hf st hg;obtain⟨ha,hi⟩:=hg;obtain⟨vs,e1,e2⟩:=hT;have lt:=g9 e2;have g:s.heap.get? d=some o:=(I.hok d _ ha).1;have le:es.size=vs.length:=by rw[<-uu,e1,uj]
  obtain⟨f0,f1,f2,f3,f4,f5⟩:=hf it (by simp);exact oG (I.ok.hd hc) st g hd (by omega) fun h' eb=>⟨rfl,I.turned (t':=s.toks) (fun b o hb e=>eb b o hb e) f0 f1 f3 f4 f5⟩
 self:=fun _ _ _ _ _ st h=>wpAny_pyIter_keyiter st h
section
variable{X:Cx}{tg:Expr}
def t9(P:Program)(w:World)(tl:TE):TI:=fun σ H R=>tl σ H fun x H1=>∃d o T,x=.ref d/\H1 d=some (cp d o)/\jG P w o T/\(d==sysModules)=false/\R (Itc d o T) H1
theorem rl{l:Expr}{tl:TE}(hl:PE X l tl):PI X tg l (t9 X.prog X.w tl):=by
 intro pins s σ H R I h;refine thn (hl pins s σ H _ I h) fun v s1 hPz=>?_;obtain⟨x,H1,I1,r1,q1⟩:=hPz;obtain⟨d,o,T,rfl,hd,ho,nm,q⟩:=q1;cases r1;obtain⟨es,ep,vs,e1,e2,e3,e4⟩:=ho.es;have g:s1.heap.get? d=some o:=(I1.hok d _ hd).1;refine lI nm g ho.ex e1 ?_;refine⟨s1.heap.objs.size,[s1.heap.objs.size],_,_,H1,rfl,I1.kept (t':=s1.toks) fun b o e=>uh _ e,nJ d _ o T e1 ⟨vs,e2,e3⟩,⟨_,uK _ rfl,rfl,rfl⟩,fun b hb=>?_,q⟩;have e:b=s1.heap.objs.size:=by simpa using hb
 subst e;exact I1.fpOk (uA _) (I1.hok.fresh (uA _))
theorem tH{d:Addr}{o:Obj}{T:CT}{g:TG}{tt:TT}{te:TE}{σ0:St}{Q:Hp->Prop}{D:Addr}{H:Hp}(Pv:Nat->List V->Hp->Prop)(h0:Pv 0 [] H)(hl:∀i acc H,i<=T.length->Pv i acc H->H d=some (cp d o))
  (hs:∀i t acc H2,T[i]?=some t->Pv i acc H2->g (.ref t.2.1) σ0 H2 fun σ2 H4=>tt σ2 H4 fun b H5=>if b=true then te σ2 H5 fun y H6=>H6 D=some (.lst acc)/\acc.length<sizeLine/\Pv (i+1) (acc++[y]) (upd H6 D (.lst (acc++[y])))else Pv (i+1) acc H5)
  (hd:∀acc H2,Pv T.length acc H2->Q H2):
  ∃W:Nat->Nat->List V->Hp->Prop,(∃m,W 0 m [] H)/\∀i m acc H2,W i m acc H2->
   ((Itc d o T).stop i H2/\Q H2)\/((Itc d o T).go i H2/\∃N:List V->Hp->Prop,(∀acc' H',N acc' H'->∃m',m'<m/\W (i+1) m' acc' H')/\∀x H3,(Itc d o T).yld i H2 x H3->g x σ0 H3 fun σ2 H4=>tt σ2 H4 fun b H5=>if b=true then te σ2 H5 fun y H6=>H6 D=some (.lst acc)/\acc.length<sizeLine/\N (acc++[y]) (upd H6 D (.lst (acc++[y])))else N acc H5):=by
 refine⟨fun i m acc H=>m=T.length-i/\i<=T.length/\Pv i acc H,⟨T.length,by simp,vg _,h0⟩,?_⟩;rintro i m acc H2 ⟨rfl,hi,p⟩;have q:=hl i acc H2 hi p;by_cases hlt:i<T.length
 ·refine .inr ⟨⟨q,hlt⟩,Pv (i+1),fun acc' H' p'=>⟨T.length-(i+1),by omega,rfl,hlt,p'⟩,fun x H3 y=>?_⟩;obtain⟨e,t,ht,rfl⟩:=y;subst e;exact hs i t acc _ ht p
 ·have e:i=T.length:=by omega
  subst e;exact .inl ⟨⟨q,uA _⟩,hd acc H2 p⟩
end
end L2
namespace L2
open PySem PySem.Spec PyProof.Rows
open LM (t6)
theorem mY{T:CT}{c:Col}{b:Addr}{v:V}{P:Col×Addr×V->Prop}(hT:∀t∈T,P t)(hn:P (c,b,v))(hs:∀t,P t->∀u,P (t.1,t.2.1,u)):∀t∈cZ T c b v,P t:=by
 intro t ht;unfold cZ at ht;split at ht
 ·obtain⟨u,hu,rfl⟩:=uO.mp ht;split
  ·exact hs u (hT u hu) v
  ·exact hT u hu
 ·rcases uB.mp ht with a|a
  ·exact hT t a
  ·rw[ux.mp a];exact hn
end L2
namespace L2
open PySem PySem.Spec PyProof.Rows
theorem jS{K:Frag}{H:Hp}:∀(r:List Key),eO K H (r.map cJ) (r.map kV)
 | []=>.nil
 |k::r=>by
  refine .cons ?_ (jS r);cases k with
  |inl i=>exact .int i
  |inr x=>exact .str x
theorem dR.isD{K:Frag}{H:Hp}{b:Addr}{c:Col}(h:dR K H b c):IsD K H (fX c) (.ref b):=by
 obtain⟨l,xs,h1,h2⟩:=h;refine .tup h1 ?_;clear h1 l
 induction h2 with
 |nil=>exact .nil
 |cons a _ ih=>obtain⟨x,rfl,hx⟩:=a;exact .cons (.tup hx (jS _)) ih
end L2
namespace L2
open PySem PySem.Spec PyProof PyProof.Rows
section
variable{prog:Program}{w:World}{A:Around}{R:Result->Shared->Prop}{I S:Addr}{fp wr:List Addr}{n:Nat}{P:Nat->Value->Prop}{St:Nat->Heap->Prop}{kw:List (Str×Value)}{bt:Nat->Nat->Bool}
noncomputable def kF(vs:Array Value)(c:Nat):Obj:={cls:=.type "list",dict:=none,data:=.seq vs c,slots:= #[]}
end
end L2
namespace L2
open PySem PySem.Spec PyProof.Rows
section
variable{X:Cx}{pins:List (Addr×Obj)}{σ:St}{H:Hp}{s:Shared}{h':Heap}
theorem pD{t':Nat}{e it T:Addr}{xs:List V}(I:Inv X pins σ H s)(k:∀b o,b≠e->b≠it->s.heap.get? b=some o->h'.get? b=some o)(he:f9 X pins H e)(hi:f9 X pins H it)
  (hT:s.heap.objs.size<=T) (new:bQ X.prog X.w (upd H T (.tup xs)) h' T (.tup xs)):Inv X pins σ (upd H T (.tup xs)) {s with heap:=h',toks:=t'}:=by
 obtain⟨e0,e1,e2,e3,e4,e5⟩:=he;obtain⟨i0,i1,i2,i3,i4,i5⟩:=hi;have hn:H T=none:=I.hok.fresh hT;have nt:∀b o,s.heap.get? b=some o->b≠T:=fun b o g z=>absurd (uI (uw g) (z▸hT)) (vR _);have ue:∀b u,H b=some u->upd H T (.tup xs) b=some u:=fun b u g=>by rw[ax (bW g hn)];exact g
 have k2:∀b o,b∉[e,it]->s.heap.get? b=some o->h'.get? b=some o:=fun b o hb g=>k b o (fun z=>hb (by simp[z])) (fun z=>hb (by simp[z])) g;refine I.step (g':=s.gens) (d':=s.drawn) (ch:=[e,it]) (fun b hb=>?_) (fun b o _ _ hc g _=>k2 b o hc g) (fun b o _ _ hc g _=>⟨o.slots,k2 b o hc g⟩) (fun b o _ g n=>by rw[ax (nt b o g)];exact n)
  (fun b o hc g=>⟨o,k2 b o hc g⟩) (fun b ys g=>ue b _ g) (fun b o u g=>ue b _ g) (fun b ps g=>⟨#[],by rw[ue b _ g];simp⟩) (fun m hm=>?_) (fun b u g=>?_) I.bare
 ·have z:b=e\/b=it:=by simpa using hb
  rcases z with rfl|rfl
  ·exact⟨e3,e1,e4,e5⟩
  ·exact⟨i3,i1,i4,i5⟩
 ·obtain⟨o,es,ep,ho,r⟩:=hm;exact⟨o,es,ep,k _ o (Ne.symm e1) (Ne.symm i1) ho,r⟩
 ·by_cases hb:b=T
  ·subst hb;rw[af]at g;cases g;exact new
  ·rw[ax hb]at g;refine(I.hok b u g).stay (fun c v hc q=>?_) (fun c q=>ue c _ q) fun c ys q=>ue c _ q;have z:∃u',H c=some u':=by
    rcases hc with z|z
    ·exact⟨u,z▸g⟩
    ·exact⟨_,z⟩
   obtain⟨u',z⟩:=z;exact k c v (fun y=>by rw[y,e0]at z;cases z) (fun y=>by rw[y,i0]at z;cases z) q
end
end L2
namespace L2
open PySem PySem.Spec PyProof.Rows LM
theorem veq{a b:Int}:decide (V.int a=V.int b)=true<->a=b:=⟨fun h=>V.int.inj (uW h),fun h=>uD (congrArg V.int h)⟩
end L2
namespace L2
open PySem PyProof.Rows
noncomputable abbrev SM(α:Type):=StateT SortSt Sem α
noncomputable def rR(bq:Nat->SM (Option Bool))(n hint:Nat):SM (Option Nat):=do
 let mut lastofs:=0
 let mut ofs:=1
 let mut lo:=0
 let mut hi:=0
 let some right <-bq hint|return none
 if right then
  let maxofs:=n-hint
  for _ in[0:n] do
   if ofs>=maxofs then break
   let some more <-bq (hint+ofs)|return none
   if !more then break
   lastofs:=ofs
   ofs:=2*ofs+1
  lo:=hint+lastofs+1
  hi:=hint+min ofs maxofs
 else
  let maxofs:=hint+1
  for _ in[0:n] do
   if ofs>=maxofs then break
   let some found <-bq (hint-ofs)|return none
   if found then break
   lastofs:=ofs
   ofs:=2*ofs+1
  lo:=hint+1-min ofs maxofs
  hi:=hint-lastofs
 for _ in[0:n] do
  if lo>=hi then break
  let m:=lo+(hi-lo) / 2
  let some more <-bq m|return none
  if more then lo:=m+1 else hi:=m
 return some hi
noncomputable def dg:Bool->Keyed->Array Keyed->Nat->Nat->Nat->SM (Option Nat):=sortPriv% PySem.Builtin.gallop
noncomputable def bey(left:Bool)(key:Keyed)(arr:Array Keyed)(base i:Nat):SM (Option Bool):=do
 let x <-elem' arr (base+i)
 if left then lt' x key else return (<-lt' key x).map (!·)
theorem kr(left:Bool)(key:Keyed)(arr:Array Keyed)(base n hint:Nat):dg left key arr base n hint=rR (bey left key arr base) n hint:=rfl
section
variable{prog:Program}{w:World}{A:Around}{E:Value->Shared->Prop}{s:Shared}
theorem jJ{bq:Nat->SM (Option Bool)}{n lo hi:Nat}{st:SortSt}{Q:Option Nat->SortSt->Prop}{f:Nat->Option (Option Nat)×Nat×Nat->SM (ForInStep (Option (Option Nat)×Nat×Nat))}{g:Option (Option Nat)×Nat×Nat->SM (Option Nat)}
  {k:Nat->Nat->Option Bool->SM (ForInStep (Option (Option Nat)×Nat×Nat))}
  (hf:∀x l r,f x (none,l,r)=if l>=r then pure (ForInStep.done (none,l,r))else bq (l+(r-l) / 2)>>= k l r)
  (hk:∀l r b,k l r (some b)=if b=true then pure (ForInStep.yield (none,l+(r-l) / 2+1,r))else pure (ForInStep.yield (none,l,l+(r-l) / 2)))
  (hg:∀l r,g (none,l,r)=pure (some r)) (B:Nat->Bool)
  (hb:∀i,i<n->∀(R:Option Bool->SortSt->Prop),R (some (B i)) st->wpS (model prog w) A E s (bq i) R st) (mono:∀i j,i<=j->j<n->B j=true->B i=true) (h1:lo<=hi) (h2:hi<=n)
  (h3:∀i,i<lo->B i=true) (h4:∀i,hi<=i->i<n->B i=false)
  (h:∀k,k<=n->(∀i,i<k->B i=true)->(∀i,k<=i->i<n->B i=false)->Q (some k) st):wpS (model prog w) A E s (forIn [:n] (none,lo,hi) f>>= g) Q st:=by
 refine ui (wpS_mono (vq (I:=fun x c st'=>st'=st/\∃l r,c=(none,l,r)/\l<=r/\r<=n/\r-l<=n-x/\(∀i,i<l->B i=true)/\∀i,r<=i->i<n->B i=false) (Q:=fun c st'=>st'=st/\∃k,c=(none,k,k)/\k<=n/\(∀i,i<k->B i=true)/\∀i,k<=i->i<n->B i=false) ?step ?fin ⟨rfl,lo,hi,rfl,h1,h2,by omega,h3,h4⟩) ?post)
 case post=>rintro c st' ⟨rfl,k,rfl,k1,k2,k3⟩;rw[hg];exact uk (h k k1 k2 k3)
 case fin=>
  rintro c st' ⟨rfl,l,r,rfl,a1,a2,a3,a4,a5⟩;have:l=r:=by omega
  subst this;exact⟨rfl,l,rfl,a2,a4,a5⟩
 case step=>
  rintro x c st' _ hx ⟨rfl,l,r,rfl,a1,a2,a3,a4,a5⟩;rw[hf];by_cases hge:l>=r
  ·rw[um hge];have:l=r:=(by omega);subst this;exact uk ⟨rfl,l,rfl,a2,a4,a5⟩
  ·rw[uo hge];refine ui (hb _ (by omega) _ ?_);rw[hk];cases hm:B (l+(r-l) / 2)with
   |true=>rw[um rfl];exact uk ⟨rfl,_,r,rfl,by omega,a2,by omega,fun i hi=>mono i _ (by omega) (by omega) hm,a5⟩
   |false=>
    rw[uo (by decide)];refine uk ⟨rfl,l,_,rfl,by omega,by omega,by omega,a4,fun i hi hn=>?_⟩;cases hi':B i with
    |false=>rfl
    |true=>rw[mono _ i hi hn hi']at hm;cases hm
theorem nC{bq:Nat->SM (Option Bool)}{n hint:Nat}{st:SortSt}{Q:Option Nat->SortSt->Prop}(B:Nat->Bool)
  (hb:∀i,i<n->∀(R:Option Bool->SortSt->Prop),R (some (B i)) st->wpS (model prog w) A E s (bq i) R st) (mono:∀i j,i<=j->j<n->B j=true->B i=true) (hh:hint<n)
  (h:∀k,k<=n->(∀i,i<k->B i=true)->(∀i,k<=i->i<n->B i=false)->Q (some k) st):wpS (model prog w) A E s (rR bq n hint) Q st:=by
 unfold rR;refine ui (hb hint hh _ ?_);dsimp only;cases h0:B hint with
 |true=>
  rw[um rfl];refine ui (wpS_mono (vq (I:=fun x c st'=>st'=st/\∃l o,c=(none,l,o)/\l<o/\x+1<=o/\hint+l<n/\B (hint+l)=true) (Q:=fun c st'=>st'=st/\∃l o,c=(none,l,o)/\l<o/\hint+l<n/\B (hint+l)=true/\(n-hint<=o\/(hint+o<n/\B (hint+o)=false))) ?step ?fin ⟨rfl,0,1,rfl,by omega,by omega,by omega,h0⟩) ?post)
  case fin=>rintro c st' ⟨rfl,l,o,rfl,a1,a2,a3,a4⟩;exact⟨rfl,l,o,rfl,a1,a3,a4,.inl (by omega)⟩
  case step=>
   rintro x c st' _ hx ⟨rfl,l,o,rfl,a1,a2,a3,a4⟩;dsimp only;by_cases hge:o>=n-hint
   ·rw[um hge];exact uk ⟨rfl,l,o,rfl,a1,a3,a4,.inl hge⟩
   ·rw[uo hge];refine ui (hb _ (by omega) _ ?_);dsimp only;cases hm:B (hint+o)with
    |true=>rw[uo (by decide)];exact uk ⟨rfl,o,_,rfl,by omega,by omega,by omega,hm⟩
    |false=>rw[um (by decide)];exact uk ⟨rfl,l,o,rfl,a1,a3,a4,.inr ⟨by omega,hm⟩⟩
  case post=>
   rintro c st' ⟨rfl,l,o,rfl,a1,a3,a4,a5⟩;dsimp only;refine jJ (bq:=bq) (fun _ _ _=>rfl) (fun _ _ _=>rfl) (fun _ _=>rfl) B hb mono ?_ ?_ (fun i hi=>mono i _ (by have hi':i<hint+l+1:=hi;omega) (by omega) a4) (fun i hi hn=>?_) h
   ·show hint+l+1<=hint+min o (n-hint);omega
   ·show hint+min o (n-hint)<=n;omega
   ·have hi':hint+min o (n-hint)<=i:=hi;rcases a5 with z|⟨z1,z2⟩
    ·omega
    ·cases hb':B i with
     |false=>rfl
     |true=>rw[mono (hint+o) i (by omega) hn hb']at z2;cases z2
 |false=>
  rw[uo (by decide)];refine ui (wpS_mono (vq (I:=fun x c st'=>st'=st/\∃l o,c=(none,l,o)/\l<o/\x+1<=o/\l<=hint/\B (hint-l)=false) (Q:=fun c st'=>st'=st/\∃l o,c=(none,l,o)/\l<o/\l<=hint/\B (hint-l)=false/\(hint+1<=o\/(o<=hint/\B (hint-o)=true))) ?step ?fin ⟨rfl,0,1,rfl,by omega,by omega,by omega,h0⟩) ?post)
  case fin=>rintro c st' ⟨rfl,l,o,rfl,a1,a2,a3,a4⟩;exact⟨rfl,l,o,rfl,a1,a3,a4,.inl (by omega)⟩
  case step=>
   rintro x c st' _ hx ⟨rfl,l,o,rfl,a1,a2,a3,a4⟩;dsimp only;by_cases hge:o>=hint+1
   ·rw[um hge];exact uk ⟨rfl,l,o,rfl,a1,a3,a4,.inl hge⟩
   ·rw[uo hge];refine ui (hb _ (by omega) _ ?_);dsimp only;cases hm:B (hint-o)with
    |false=>rw[uo (by decide)];exact uk ⟨rfl,o,_,rfl,by omega,by omega,by omega,hm⟩
    |true=>rw[um rfl];exact uk ⟨rfl,l,o,rfl,a1,a3,a4,.inr ⟨by omega,hm⟩⟩
  case post=>
   rintro c st' ⟨rfl,l,o,rfl,a1,a3,a4,a5⟩;dsimp only;refine jJ (bq:=bq) (fun _ _ _=>rfl) (fun _ _ _=>rfl) (fun _ _=>rfl) B hb mono ?_ ?_ (fun i hi=>?_) (fun i hi hn=>?_) h
   ·show hint+1-min o (hint+1)<=hint-l;omega
   ·show hint-l<=n;omega
   ·have hi':i<hint+1-min o (hint+1):=hi;rcases a5 with z|⟨z1,z2⟩
    ·omega
    ·exact mono i _ (by omega) (by omega) z2
   ·have hi':hint-l<=i:=hi;cases hb':B i with
    |false=>rfl
    |true=>rw[mono (hint-l) i hi' hn hb']at a4;cases a4
end
end L2
namespace LT
open PySem PyProof.Rows L2
class KN where
 kn:Keyed->Int
 isK:Keyed->Prop
 kd:type_of% oneType'
class ia(prog:Program)(w:World)(A:Around)(E:Value->Shared->Prop)(s:Shared)[KN]:Prop where
 lt:∀{st:SortSt}{x y:Keyed}{Q:Option Bool->SortSt->Prop},kindOf st=KN.kd->KN.isK x->KN.isK y->Q (some (decide (KN.kn x<KN.kn y))) st->wpS (model prog w) A E s (lt' x y) Q st
variable[KN]
noncomputable def kn(p:Keyed):Int:=KN.kn p
def IsK(p:Keyed):Prop:=KN.isK p
noncomputable abbrev kd0:type_of% oneType':=KN.kd
noncomputable def K(xs:Array Keyed)(i:Nat):Int:=match xs[i]? with
 |some p=>kn p
 |none=>0
def SortedTo(xs:Array Keyed)(k:Nat):Prop:=∀i j,i<=j->j<k->K xs i<=K xs j
def fQ(xs:Array Keyed):Prop:=∀p,p∈xs.toList->IsK p
theorem K_congr{xs ys:Array Keyed}{i j:Nat}(h:xs[i]?=ys[j]?):K xs i=K ys j:=by unfold K;rw[h]
theorem K_bubble{xs:Array Keyed}{src d:Nat}(hs:src<xs.size)(hd:d<=src)(k:Nat):K (bubble xs src d) k=if k=src-d then K xs src else if src-d<k/\k<=src then K xs (k-1)else K xs k:=by
 have e:=getElem?_bubble hs d hd k;split
 ·rename_i h;rw[um h]at e;exact K_congr e
 ·rename_i h;rw[uo h]at e;split
  ·rename_i h2;rw[um h2]at e;exact K_congr e
  ·rename_i h2;rw[uo h2]at e;exact K_congr e
theorem K_mirror{xs:Array Keyed}{i j:Nat}(hj:j<=xs.size)(k:Nat):K (mirror xs i j ((j-i) / 2)) k=if i<=k/\k<j then K xs (i+j-1-k)else K xs k:=by
 have e:=getElem?_mirror_all (i:=i) hj k;split
 ·rename_i h;rw[um h]at e;exact K_congr e
 ·rename_i h;rw[uo h]at e;exact K_congr e
theorem K_mirror_equal{xs:Array Keyed}{i j:Nat}(hj:j<=xs.size)(heq:∀k,i<=k->k<j->K xs k=K xs (j-1))(k:Nat):K (mirror xs i j ((j-i) / 2)) k=K xs k:=by
 rw[K_mirror hj];split
 ·rw[heq _ (by omega) (by omega),heq k (by omega) (by omega)]
 ·rfl
section
variable{prog:Program}{w:World}{A:Around}{E:Value->Shared->Prop}{s:Shared}[ia prog w A E s]
theorem fk{st:SortSt}{x y:Keyed}{Q:Option Bool->SortSt->Prop}(hk:kindOf st=kd0)(hx:IsK x)(hy:IsK y)(h:Q (some (decide (kn x<kn y))) st):wpS (model prog w) A E s (lt' x y) Q st:=ia.lt hk hx hy h
theorem az{st:SortSt}{arr:Array Keyed}{i:Nat}{p:Keyed}{Q:Keyed->SortSt->Prop}(e:arr[i]?=some p)(h:Q p st):wpS (model prog w) A E s (elem' arr i) Q st:=by rw[elem'_eq,e];exact uk h
theorem c4{left:Bool}{key:Keyed}{arr:Array Keyed}{base n hint:Nat}{st:SortSt}{Q:Option Nat->SortSt->Prop}(xs:List Keyed)(hk:kindOf st=kd0)(hkey:IsK key)(hx:∀x∈xs,IsK x)
  (hn:xs.length=n) (ha:∀i,i<n->arr[base+i]?=xs[i]?) (so:xs.Pairwise fun a b=>kn a<=kn b) (hh:hint<n)
  (h:∀k,k<=n->(∀x∈xs.take k,if left=true then kn x<kn key else kn x<=kn key)->(∀x∈xs.drop k,if left=true then kn key<=kn x else kn key<kn x)->Q (some k) st):wpS (model prog w) A E s (dg left key arr base n hint) Q st:=by
 rw[kr];have le:∀i j(hi:i<xs.length)(hj:j<xs.length),i<=j->kn xs[i]<=kn xs[j]:=fun i j hi hj hij=>by
  rcases Nat.lt_or_eq_of_le hij with z|z
  ·exact vA.mp so i j hi hj z
  ·subst z;exact vX _
 refine nC (fun i=>match xs[i]? with|some x=>if left=true then decide (kn x<kn key)else !decide (kn key<kn x)|none=>false) (fun i hi R hR=>?_) (fun i j hij hj b=>?_) hh fun k k1 k2 k3=>h k k1 (fun x hx'=>?_) (fun x hx'=>?_)
 ·have e:xs[i]?=some xs[i]:=uq (by omega);unfold bey;refine ui (az ((ha i hi).trans e) ?_);rw[e]at hR;dsimp only at hR;have hxi:=hx _ (List.getElem_mem (show i<xs.length by omega));cases left with
  |true=>rw[um rfl]at hR ⊢;exact fk hk hxi hkey hR
  |false=>rw[uo (by decide)]at hR ⊢;exact ui (fk hk hkey hxi (uk hR))
 ·have ei:xs[i]?=some xs[i]:=uq (by omega);have ej:xs[j]?=some xs[j]:=uq (by omega);have l:=le i j (by omega) (by omega) hij;rw[ej]at b;rw[ei];dsimp only at b ⊢;cases left with
  |true=>rw[um rfl]at b ⊢;have:=uW b;exact uD (by omega)
  |false=>rw[uo (by decide),Bool.not_eq_true',decide_eq_false_iff_not]at b ⊢;omega
 ·obtain⟨i,hi,rfl⟩:=List.getElem_of_mem hx';rw[uG]at hi;rw[List.getElem_take];have:=k2 i (by omega);rw[uq (show i<xs.length by omega)]at this;dsimp only at this;cases left with
  |true=>rw[um rfl]at this ⊢;exact uW this
  |false=>rw[uo (by decide)]at this ⊢;rw[Bool.not_eq_true',decide_eq_false_iff_not]at this;omega
 ·obtain⟨i,hi,rfl⟩:=List.getElem_of_mem hx';rw[vW]at hi;rw[List.getElem_drop];have:=k3 (k+i) (by omega) (by omega);rw[uq (show k+i<xs.length by omega)]at this;dsimp only at this;cases left with
  |true=>rw[um rfl]at this ⊢;rw[decide_eq_false_iff_not]at this;omega
  |false=>rw[uo (by decide)]at this ⊢;rw[Bool.not_eq_false',uH]at this;exact this
end
end LT
namespace LT
open PySem PyProof.Rows L2
variable[KN]
noncomputable def kf:Array Keyed->Array Keyed->SM (Array Keyed):=sortPriv% PySem.Builtin.mergeLo
noncomputable abbrev setG(z:SortSt)(g:Nat):SortSt:=SortSt.mk' (kindOf z) (arrOf z) (pendingOf z) g (failedOf z)
noncomputable def rF(a b:Array Keyed):SM (Array Keyed):=do
 rule "list.sort.merge-lo"
 let tot:=a.size+b.size
 let dn (ot:Array Keyed) (ja jb:Nat):=ot++a.extract ja a.size++b.extract jb b.size
 let la (ot:Array Keyed) (ja jb:Nat):=ot++b.extract jb b.size++a.extract ja a.size
 let mut ot:Array Keyed:= #[<-elem' b 0]
 let mut ja:=0
 let mut jb:=1
 if jb==b.size then return dn ot ja jb
 if ja+1==a.size then return la ot ja jb
 let mut mg:=gallopOf (<-get)
 for _ in[0:tot] do
  let mut ac:=0
  let mut bc:=0
  for _ in[0:tot] do
   let some bw <-lt' (<-elem' b jb) (<-elem' a ja)|return dn ot ja jb
   if bw then
    ot:=ot.push (<-elem' b jb);jb:=jb+1;bc:=bc+1;ac:=0
    if jb==b.size then return dn ot ja jb
    if bc>=mg then break
   else
    ot:=ot.push (<-elem' a ja);ja:=ja+1;ac:=ac+1;bc:=0
    if ja+1==a.size then return la ot ja jb
    if ac>=mg then break
  rule "list.sort.gallop"
  mg:=mg+1
  for _ in[0:tot] do
   if mg>1 then mg:=mg-1
   (modify fun z=>setG z mg)
   let some k <-dg false (<-elem' b jb) a ja (a.size-ja) 0|return dn ot ja jb
   ac:=k
   if k>0 then
    ot:=ot++a.extract ja (ja+k);ja:=ja+k
    if ja+1==a.size then return la ot ja jb
    if ja==a.size then return dn ot ja jb
   ot:=ot.push (<-elem' b jb);jb:=jb+1
   if jb==b.size then return dn ot ja jb
   let some k <-dg true (<-elem' a ja) b jb (b.size-jb) 0|return dn ot ja jb
   bc:=k
   if k>0 then
    ot:=ot++b.extract jb (jb+k);jb:=jb+k
    if jb==b.size then return dn ot ja jb
   ot:=ot.push (<-elem' a ja);ja:=ja+1
   if ja+1==a.size then return la ot ja jb
   if ac<7&&bc<7 then break
  mg:=mg+1
  (modify fun z=>setG z mg)
 unsupported "internal:list.sort.merge-bound"
theorem lj(a b:Array Keyed):kf a b=rF a b:=rfl
structure Mg(a b out:List Keyed)(i j:Nat):Prop where
 pm:out.Perm (a.take i++b.take j)
 so:out.Pairwise fun x y=>kn x<=kn y
 le:∀x∈out,∀y∈a.drop i++b.drop j,kn x<=kn y
def Mgd(a b out:List Keyed):Prop:=out.Perm (a++b)/\out.Pairwise fun x y=>kn x<=kn y
abbrev So(a:List Keyed):Prop:=a.Pairwise fun x y=>kn x<=kn y
theorem So.drop{a:List Keyed}(h:So a)(i:Nat):So (a.drop i):=List.Pairwise.sublist (List.drop_sublist i a) h
theorem fM{a:List Keyed}{i:Nat}{x:Keyed}(h:a[i]?=some x):a.drop i=x::a.drop (i+1):=by obtain⟨hi,e⟩:=ur.mp h;rw[<-e,List.getElem_cons_drop]
theorem iX{a:List Keyed}{i:Nat}{x:Keyed}(h:a[i]?=some x):a.take (i+1)=a.take i++[x]:=by rw[uM,h];rfl
theorem Mg.pushB{a b out:List Keyed}{i j:Nat}{x:Keyed}(h:Mg a b out i j)(sb:So b)(e:b[j]?=some x)(hl:∀y∈a.drop i,kn x<=kn y):Mg a b (out++[x]) i (j+1):=by
 have db:=fM e;have sx:=sb.drop j;rw[db]at sx;refine⟨?_,?_,fun y hy z hz=>?_⟩
 ·rw[iX e,<-uJ];exact h.pm.append_right _
 ·refine va.mpr ⟨h.so,vZ _ _,fun y hy z hz=>?_⟩;rw[ux.mp hz];exact h.le y hy x (uT _ (by rw[db];exact uy ..))
 ·rcases uB.mp hy with w|w
  ·refine h.le y w z ?_;rcases uB.mp hz with v|v
   ·exact vL _ v
   ·exact uT _ (by rw[db];exact uv _ v)
  ·rw[ux.mp w];rcases uB.mp hz with v|v
   ·exact hl z v
   ·exact(List.pairwise_cons.mp sx).1 z v
theorem Mg.swap{a b out:List Keyed}{i j:Nat}(h:Mg a b out i j):Mg b a out j i:=
 ⟨h.pm.trans List.perm_append_comm,h.so,fun x hx y hy=>h.le x hx y (by rcases uB.mp hy with v|v;exact uT _ v;exact vL _ v)⟩
theorem Mg.pushA{a b out:List Keyed}{i j:Nat}{x:Keyed}(h:Mg a b out i j)(sa:So a)(e:a[i]?=some x)(hl:∀y∈b.drop j,kn x<=kn y):Mg a b (out++[x]) (i+1) j:=(h.swap.pushB sa e hl).swap
theorem Mg.bulkA{a b:List Keyed}(sa:So a){j:Nat}:∀(k:Nat){out:List Keyed}{i:Nat},Mg a b out i j->i+k<=a.length->(∀x∈(a.drop i).take k,∀y∈b.drop j,kn x<=kn y)->Mg a b (out++(a.drop i).take k) (i+k) j
 | 0,out,i,h,_,_=>by rw[List.take_zero,vn];exact h
 |k+1,out,i,h,hk,hl=>by obtain⟨x,e⟩:∃x,a[i]?=some x:=⟨_,uq (by omega)⟩;have da:=fM e;rw[da,List.take_succ_cons]at hl ⊢;have h1:=h.pushA sa e (hl x (uy ..));have h2:=Mg.bulkA sa k h1 (by omega) (fun y hy=>hl y (uv _ hy));rw[uJ,List.singleton_append]at h2;rw[show i+(k+1)=i+1+k by omega];exact h2
theorem Mg.bulkB{a b:List Keyed}(sb:So b){i:Nat}(k:Nat){out:List Keyed}{j:Nat}(h:Mg a b out i j)(hk:j+k<=b.length)(hl:∀x∈(b.drop j).take k,∀y∈a.drop i,kn x<=kn y):Mg a b (out++(b.drop j).take k) i (j+k):=
 (Mg.bulkA sb k h.swap hk hl).swap
theorem Mg.fin{a b out:List Keyed}{i j:Nat}(h:Mg a b out i j)(sa:So a)(sb:So b)(hc:∀x∈a.drop i,∀y∈b.drop j,kn x<=kn y):Mgd a b (out++a.drop i++b.drop j):=by
 refine⟨?_,?_⟩
 ·have p1:(out++a.drop i++b.drop j).Perm ((a.take i++b.take j)++(a.drop i++b.drop j)):=by
   rw[uJ];exact h.pm.append_right _
  refine p1.trans ?_;have p2:((a.take i++b.take j)++(a.drop i++b.drop j)).Perm ((a.take i++a.drop i)++(b.take j++b.drop j)):=by rw[uJ,uJ];refine List.Perm.append_left _ ?_;rw[<-uJ,<-uJ];exact List.perm_append_comm.append_right _
  rw[u0,u0]at p2;exact p2
 ·rw[uJ];refine va.mpr ⟨h.so,va.mpr ⟨sa.drop i,sb.drop j,hc⟩,h.le⟩
theorem Mgd.swap{a b out:List Keyed}(h:Mgd b a out):Mgd a b out:=⟨h.1.trans List.perm_append_comm,h.2⟩
theorem cK{a:Array Keyed}{i j:Nat}:(a.extract i j).toList=(a.toList.drop i).take (j-i):=by simp[Array.toList_extract,List.extract_eq_take_drop]
theorem eL{a:Array Keyed}{i:Nat}:(a.extract i a.size).toList=a.toList.drop i:=by rw[cK,List.take_of_length_le];rw[vW,uu];omega
section
variable{prog:Program}{w:World}{A:Around}{E:Value->Shared->Prop}{s:Shared}[ia prog w A E s]
structure SmG(st st':SortSt):Prop where
 kd:kindOf st'=kindOf st
 ar:arrOf st'=arrOf st
 pd:pendingOf st'=pendingOf st
 fl:failedOf st'=failedOf st
theorem SmG.refl(st:SortSt):SmG st st:=⟨rfl,rfl,rfl,rfl⟩
theorem SmG.g{st st':SortSt}(h:SmG st st')(g:Nat):SmG st (setG st' g):=⟨h.kd,h.ar,h.pd,h.fl⟩
theorem fU{a b ot:Array Keyed}{ja jb:Nat}(h:Mg a.toList b.toList ot.toList ja jb)(sa:So a.toList)(sb:So b.toList)(e:jb=b.size):Mgd a.toList b.toList (ot++a.extract ja a.size++b.extract jb b.size).toList:=by rw[uN,uN,eL,eL];refine h.fin sa sb fun x _ y hy=>?_;rw[vO (by rw[uu];omega)]at hy;cases hy
theorem rH{a b ot:Array Keyed}{ja jb:Nat}(h:Mg a.toList b.toList ot.toList ja jb)(sa:So a.toList)(sb:So b.toList)(e:ja=a.size):Mgd a.toList b.toList (ot++a.extract ja a.size++b.extract jb b.size).toList:=by rw[uN,uN,eL,eL];refine h.fin sa sb fun x hx=>?_;rw[vO (by rw[uu];omega)]at hx;cases hx
theorem gV{a b ot:Array Keyed}{ja jb:Nat}(h:Mg a.toList b.toList ot.toList ja jb)(sa:So a.toList)(sb:So b.toList)(h2:∀x∈b.toList,∀y,a.toList[a.size-1]?=some y->kn x<=kn y)(e:ja+1=a.size):
  Mgd a.toList b.toList (ot++b.extract jb b.size++a.extract ja a.size).toList:=by
 rw[uN,uN,eL,eL];refine(h.swap.fin sb sa fun x hx y hy=>?_).swap;obtain⟨z,ez⟩:∃z,a.toList[ja]?=some z:=⟨_,uq (by rw[uu];omega)⟩;rw[fM ez,vO (by rw[uu];omega),ux]at hy;rw[hy];exact h2 x (vx hx) z (by rw[show a.size-1=ja by omega];exact ez)
theorem bF{a:Array Keyed}{i:Nat}(h:i<a.size):∃x,a[i]?=some x/\a.toList[i]?=some x/\x∈a.toList:=
 ⟨a[i],Array.getElem?_eq_getElem h,by rw[uq (by rw[uu];exact h),Array.getElem_toList],by simp⟩
theorem eE{a:List Keyed}(sa:So a){i:Nat}{x:Keyed}(e:a[i]?=some x):∀y∈a.drop i,kn x<=kn y:=fun y hy=>by
 have:=sa.drop i;rw[fM e]at this hy;rcases uY.mp hy with z|z
 ·rw[z];exact vX _
 ·exact(List.pairwise_cons.mp this).1 y z
theorem oX{a b:Array Keyed}{st:SortSt}{Q:Array Keyed->SortSt->Prop}(hk:kindOf st=kd0)(ka:∀x∈a.toList,IsK x)(kb:∀x∈b.toList,IsK x)(sa:So a.toList)(sb:So b.toList)(na:1<=a.size)(nb:1<=b.size)
  (h1:∀x,b.toList[0]?=some x->∀y∈a.toList,kn x<=kn y) (h2:∀x∈b.toList,∀y,a.toList[a.size-1]?=some y->kn x<=kn y)
  (h:∀m st',SmG st st'->Mgd a.toList b.toList m.toList->Q m st'):wpS (model prog w) A E s (rF a b) Q st:=by
 unfold rF;refine ui (wpS_lift (wpAny_rule ⟨rfl,?_⟩));obtain⟨b0,e0,e0',m0⟩:=bF (a:=b) (i:=0) (by omega);refine ui (az e0 ?_);have M0:Mg a.toList b.toList (#[b0]:Array Keyed).toList 0 1:=by have z:Mg a.toList b.toList [] 0 0:=⟨by simp,List.Pairwise.nil,fun _ hx=>nomatch hx⟩;exact z.pushB sb e0' (fun y hy=>h1 b0 e0' y (by simpa using hy))
 by_cases c1:(1==b.size)=true
 ·rw[um c1];exact uk (h _ _ (SmG.refl st) (fU M0 sa sb (by simpa using c1)))
 rw[uo c1];by_cases c2:(0+1==a.size)=true
 ·rw[um c2];exact uk (h _ _ (SmG.refl st) (gV M0 sa sb h2 (by simpa using c2)))
 rw[uo c2];have c1':1<b.size:=by
  have:¬1=b.size:=by simpa using c1
  omega
 have c2':0+1<a.size:=by
  have:¬0+1=a.size:=by simpa using c2
  omega
 refine ui (wpS_get ?_);refine ui (wpS_mono (vq (I:=fun x c st'=>SmG st st'/\∃ot ja jb mg,c=(none,ot,ja,jb,mg)/\Mg a.toList b.toList ot.toList ja jb/\ja+1<a.size/\jb<b.size/\x<ja+jb) (Q:=fun c st'=>SmG st st'/\∃r y,c=(some r,y)/\Mgd a.toList b.toList r.toList) ?step ?fin ⟨SmG.refl st,_,_,_,_,rfl,M0,c2',c1',by omega⟩) ?post)
 case fin=>rintro c st' ⟨_,ot,ja,jb,mg,_,_,l1,l2,l3⟩;omega
 case post=>rintro c st' ⟨sg,r,y,rfl,hr⟩;exact uk (h r st' sg hr)
 case step=>
  rintro x c st1 _ hx ⟨sg,ot,ja,jb,mg,rfl,M,l1,l2,l3⟩;dsimp only;refine ui (wpS_mono (vq (I:=fun x1 c st'=>st'=st1/\∃ot1 ja1 jb1 ac bc,c=(none,ot1,ja1,jb1,ac,bc)/\Mg a.toList b.toList ot1.toList ja1 jb1/\ja1+1<a.size/\jb1<b.size/\x1+(ja+jb)<=ja1+jb1) (Q:=fun c st'=>st'=st1/\((∃r y,c=(some r,y)/\Mgd a.toList b.toList r.toList)\/∃ot1 ja1 jb1 ac bc,c=(none,ot1,ja1,jb1,ac,bc)/\Mg a.toList b.toList ot1.toList ja1 jb1/\ja1+1<a.size/\jb1<b.size/\ja+jb<ja1+jb1)) ?step1 ?fin1 ⟨rfl,ot,ja,jb,0,0,rfl,M,l1,l2,by omega⟩) ?post1)
  case fin1=>rintro c st' ⟨_,ot1,ja1,jb1,ac,bc,_,_,m1,m2,m3⟩;omega
  case step1=>
   rintro x1 c st' _ hx1 ⟨rfl,ot1,ja1,jb1,ac,bc,rfl,M1,m1,m2,m3⟩;dsimp only;obtain⟨xb,eb,eb',mb⟩:=bF (a:=b) m2;obtain⟨xa,ea,ea',ma⟩:=bF (a:=a) (show ja1<a.size by omega);refine ui (az eb (ui (az ea (ui (fk (sg.kd.trans hk) (kb _ mb) (ka _ ma) ?_)))));dsimp only;by_cases bw:kn xb<kn xa
   ·rw[uD bw,um rfl];refine ui (az eb ?_);have M2:Mg a.toList b.toList (ot1.push xb).toList ja1 (jb1+1):=by
     rw[uP];exact M1.pushB sb eb' fun y hy=>Int.le_of_lt (Int.lt_of_lt_of_le bw (eE sa ea' y hy))
    by_cases d1:(jb1+1==b.size)=true
    ·rw[um d1];exact uk ⟨rfl,.inl ⟨_,_,rfl,fU M2 sa sb (by simpa using d1)⟩⟩
    rw[uo d1];have d1':¬jb1+1=b.size:=(by simpa using d1);by_cases d2:bc+1>=mg
    ·rw[um d2];exact uk ⟨rfl,.inr ⟨_,_,_,_,_,rfl,M2,m1,by omega,by omega⟩⟩
    ·rw[uo d2];exact uk ⟨rfl,_,_,_,_,_,rfl,M2,m1,by omega,by omega⟩
   ·rw[uQ bw,uo (by decide)];refine ui (az ea ?_);have M2:Mg a.toList b.toList (ot1.push xa).toList (ja1+1) jb1:=by
     rw[uP];exact M1.pushA sa ea' fun y hy=>vH (Int.not_lt.mp bw) (eE sb eb' y hy)
    by_cases d1:(ja1+1+1==a.size)=true
    ·rw[um d1];exact uk ⟨rfl,.inl ⟨_,_,rfl,gV M2 sa sb h2 (by simpa using d1)⟩⟩
    rw[uo d1];have d1':¬ja1+1+1=a.size:=(by simpa using d1);by_cases d2:ac+1>=mg
    ·rw[um d2];exact uk ⟨rfl,.inr ⟨_,_,_,_,_,rfl,M2,by omega,m2,by omega⟩⟩
    ·rw[uo d2];exact uk ⟨rfl,_,_,_,_,_,rfl,M2,by omega,m2,by omega⟩
  case post1=>
   rintro c st' ⟨rfl,⟨r,y,rfl,hr⟩|⟨ot1,ja1,jb1,ac,bc,rfl,M1,m1,m2,m3⟩⟩
   ·exact uk ⟨sg,r,_,rfl,hr⟩
   dsimp only;refine ui (wpS_lift (wpAny_rule ⟨rfl,?_⟩));refine ui (wpS_mono (vq (I:=fun x2 c st'=>SmG st st'/\∃ot2 ja2 jb2 mg2 ac2 bc2,c=(none,ot2,ja2,jb2,mg2,ac2,bc2)/\Mg a.toList b.toList ot2.toList ja2 jb2/\ja2+1<a.size/\jb2<b.size/\x2+(ja1+jb1)<=ja2+jb2) (Q:=fun c st'=>SmG st st'/\((∃r y,c=(some r,y)/\Mgd a.toList b.toList r.toList)\/∃ot2 ja2 jb2 mg2 ac2 bc2,c=(none,ot2,ja2,jb2,mg2,ac2,bc2)/\Mg a.toList b.toList ot2.toList ja2 jb2/\ja2+1<a.size/\jb2<b.size/\ja1+jb1<=ja2+jb2)) ?step2 ?fin2 ⟨sg,ot1,ja1,jb1,_,_,_,rfl,M1,m1,m2,by omega⟩) ?post2)
   case fin2=>rintro c st' ⟨_,ot1,ja1,jb1,mg2,ac,bc,_,_,m1,m2,m3⟩;omega
   case post2=>
    rintro c st2 ⟨sg2,⟨r,y,rfl,hr⟩|⟨ot2,ja2,jb2,mg2,ac2,bc2,rfl,M2,o1,o2,o3⟩⟩
    ·exact uk ⟨sg2,r,_,rfl,hr⟩
    dsimp only;refine ui (wpS_modify ?_);exact uk ⟨sg2.g _,_,_,_,_,rfl,M2,o1,o2,by omega⟩
   case step2=>
    rintro x2 c st2 _ hx2 ⟨sg2,ot2,ja2,jb2,mg2,ac2,bc2,rfl,M2,o1,o2,o3⟩;dsimp only;obtain⟨xb,eb,eb',mb⟩:=bF (a:=b) o2;rcases Nat.lt_or_ge 1 mg2 with hmg|hmg
    all_goals
     first|rw[um hmg]|rw[uo (Nat.not_lt.mpr hmg)]
     refine ui (wpS_modify ?_);refine ui (az eb ?_);refine ui (c4 (a.toList.drop ja2) (sg2.kd.trans hk) (kb _ mb) (fun x hx=>ka x (vx hx)) (by rw[vW,uu]) (fun i hi=>?_) (sa.drop ja2) (by omega) fun k k1 k2 k3=>?_)
     ·rw[List.getElem?_drop,uE]
     dsimp only;have hbulk:Mg a.toList b.toList (ot2++a.extract ja2 (ja2+k)).toList (ja2+k) jb2:=by rw[uN,cK,show ja2+k-ja2=k by omega];refine Mg.bulkA sa k M2 (by rw[uu];omega) fun x hx y hy=>?_;have z:=k2 x hx;rw[uo (by decide)]at z;exact vH z (eE sb eb' y hy)
     have hrest:∀y∈a.toList.drop (ja2+k),kn xb<=kn y:=fun y hy=>by rw[<-List.drop_drop]at hy;have z:=k3 y hy;rw[uo (by decide)]at z;omega
     rcases Nat.lt_or_ge 0 k with hk0|hk0
     all_goals first|rw[um hk0]|rw[uo (Nat.not_lt.mpr hk0)]
     ·by_cases d1:(ja2+k+1==a.size)=true
      ·rw[um d1];exact uk ⟨sg2.g _,.inl ⟨_,_,rfl,gV hbulk sa sb h2 (by simpa using d1)⟩⟩
      rw[uo d1];by_cases d2:(ja2+k==a.size)=true
      ·rw[um d2];exact uk ⟨sg2.g _,.inl ⟨_,_,rfl,rH hbulk sa sb (by simpa using d2)⟩⟩
      rw[uo d2];have d1':¬ja2+k+1=a.size:=(by simpa using d1);have d2':¬ja2+k=a.size:=(by simpa using d2);have o1':ja2+k+1<a.size:=(by omega);have o3':x2+(ja1+jb1)<=ja2+k+jb2:=(by omega);generalize ot2++a.extract ja2 (ja2+k)=ot3 at hbulk ⊢;generalize ja2+k=ja3 at hbulk hrest o1' o3' ⊢;refine ui (az eb ?_);have M3:Mg a.toList b.toList (ot3.push xb).toList ja3 (jb2+1):=by rw[uP];exact hbulk.pushB sb eb' hrest
      by_cases d3:(jb2+1==b.size)=true
      ·rw[um d3];exact uk ⟨sg2.g _,.inl ⟨_,_,rfl,fU M3 sa sb (by simpa using d3)⟩⟩
      rw[uo d3];have d3':¬jb2+1=b.size:=(by simpa using d3);obtain⟨xa,ea,ea',ma⟩:=bF (a:=a) (show ja3<a.size by omega);refine ui (az ea ?_);refine ui (c4 (b.toList.drop (jb2+1)) (sg2.kd.trans hk) (ka _ ma) (fun x hx=>kb x (vx hx)) (by rw[vW,uu]) (fun i hi=>?_) (sb.drop (jb2+1)) (by omega) fun k' k1' k2' k3'=>?_)
      ·rw[List.getElem?_drop,uE]
      dsimp only;have hbulk4:Mg a.toList b.toList (ot3.push xb++b.extract (jb2+1) (jb2+1+k')).toList ja3 (jb2+1+k'):=by rw[uN,cK,show jb2+1+k'-(jb2+1)=k' by omega];refine Mg.bulkB sb k' M3 (by rw[uu];omega) fun x hx y hy=>?_;have z:=k2' x hx;rw[um rfl]at z;exact vH (Int.le_of_lt z) (eE sa ea' y hy)
      have hrest4:∀y∈b.toList.drop (jb2+1+k'),kn xa<=kn y:=fun y hy=>by rw[<-List.drop_drop]at hy;have z:=k3' y hy;rw[um rfl]at z;exact z
      rcases Nat.lt_or_ge 0 k' with hk1|hk1
      all_goals first|rw[um hk1]|rw[uo (Nat.not_lt.mpr hk1)]
      ·by_cases d4:(jb2+1+k'==b.size)=true
       ·rw[um d4];exact uk ⟨sg2.g _,.inl ⟨_,_,rfl,fU hbulk4 sa sb (by simpa using d4)⟩⟩
       rw[uo d4];have d4':¬jb2+1+k'=b.size:=(by simpa using d4);have o2':jb2+1+k'<b.size:=(by omega);have o3'':x2+1+(ja1+jb1)<=ja3+(jb2+1+k'):=(by omega);generalize ot3.push xb++b.extract (jb2+1) (jb2+1+k')=ot4 at hbulk4 ⊢;generalize jb2+1+k'=jb4 at hbulk4 hrest4 o2' o3'' ⊢;refine ui (az ea ?_);have M5:Mg a.toList b.toList (ot4.push xa).toList (ja3+1) jb4:=by rw[uP];exact hbulk4.pushA sa ea' hrest4
       by_cases d5:(ja3+1+1==a.size)=true
       ·rw[um d5];exact uk ⟨sg2.g _,.inl ⟨_,_,rfl,gV M5 sa sb h2 (by simpa using d5)⟩⟩
       rw[uo d5];have d5':¬ja3+1+1=a.size:=(by simpa using d5);split
       ·exact uk ⟨sg2.g _,.inr ⟨_,_,_,_,_,_,rfl,M5,by omega,o2',by omega⟩⟩
       ·exact uk ⟨sg2.g _,_,_,_,_,_,_,rfl,M5,by omega,o2',by omega⟩
      ·have k0':k'=0:=(by omega);subst k0';rw[Nat.add_zero]at hrest4;have o2':jb2+1<b.size:=(by omega);have o3'':x2+1+(ja1+jb1)<=ja3+(jb2+1):=(by omega);clear hbulk4;have hbulk4:=M3;generalize ot3.push xb=ot4 at hbulk4 ⊢;generalize jb2+1=jb4 at hbulk4 hrest4 o2' o3'' ⊢;refine ui (az ea ?_);have M5:Mg a.toList b.toList (ot4.push xa).toList (ja3+1) jb4:=by
        rw[uP];exact hbulk4.pushA sa ea' hrest4
       by_cases d5:(ja3+1+1==a.size)=true
       ·rw[um d5];exact uk ⟨sg2.g _,.inl ⟨_,_,rfl,gV M5 sa sb h2 (by simpa using d5)⟩⟩
       rw[uo d5];have d5':¬ja3+1+1=a.size:=(by simpa using d5);split
       ·exact uk ⟨sg2.g _,.inr ⟨_,_,_,_,_,_,rfl,M5,by omega,o2',by omega⟩⟩
       ·exact uk ⟨sg2.g _,_,_,_,_,_,_,rfl,M5,by omega,o2',by omega⟩
     ·have k0:k=0:=(by omega);subst k0;have hbulk':=M2;have hrest':=hrest;rw[Nat.add_zero]at hrest';have o1':=o1;have o3':=o3;clear hbulk hrest;have hbulk:=hbulk';have hrest:=hrest';clear hbulk' hrest';generalize ot2=ot3 at hbulk ⊢;generalize ja2=ja3 at hbulk hrest o1' o3' ⊢;refine ui (az eb ?_);have M3:Mg a.toList b.toList (ot3.push xb).toList ja3 (jb2+1):=by
       rw[uP];exact hbulk.pushB sb eb' hrest
      by_cases d3:(jb2+1==b.size)=true
      ·rw[um d3];exact uk ⟨sg2.g _,.inl ⟨_,_,rfl,fU M3 sa sb (by simpa using d3)⟩⟩
      rw[uo d3];have d3':¬jb2+1=b.size:=(by simpa using d3);obtain⟨xa,ea,ea',ma⟩:=bF (a:=a) (show ja3<a.size by omega);refine ui (az ea ?_);refine ui (c4 (b.toList.drop (jb2+1)) (sg2.kd.trans hk) (ka _ ma) (fun x hx=>kb x (vx hx)) (by rw[vW,uu]) (fun i hi=>?_) (sb.drop (jb2+1)) (by omega) fun k' k1' k2' k3'=>?_)
      ·rw[List.getElem?_drop,uE]
      dsimp only;have hbulk4:Mg a.toList b.toList (ot3.push xb++b.extract (jb2+1) (jb2+1+k')).toList ja3 (jb2+1+k'):=by rw[uN,cK,show jb2+1+k'-(jb2+1)=k' by omega];refine Mg.bulkB sb k' M3 (by rw[uu];omega) fun x hx y hy=>?_;have z:=k2' x hx;rw[um rfl]at z;exact vH (Int.le_of_lt z) (eE sa ea' y hy)
      have hrest4:∀y∈b.toList.drop (jb2+1+k'),kn xa<=kn y:=fun y hy=>by rw[<-List.drop_drop]at hy;have z:=k3' y hy;rw[um rfl]at z;exact z
      rcases Nat.lt_or_ge 0 k' with hk1|hk1
      all_goals first|rw[um hk1]|rw[uo (Nat.not_lt.mpr hk1)]
      ·by_cases d4:(jb2+1+k'==b.size)=true
       ·rw[um d4];exact uk ⟨sg2.g _,.inl ⟨_,_,rfl,fU hbulk4 sa sb (by simpa using d4)⟩⟩
       rw[uo d4];have d4':¬jb2+1+k'=b.size:=(by simpa using d4);have o2':jb2+1+k'<b.size:=(by omega);have o3'':x2+1+(ja1+jb1)<=ja3+(jb2+1+k'):=(by omega);generalize ot3.push xb++b.extract (jb2+1) (jb2+1+k')=ot4 at hbulk4 ⊢;generalize jb2+1+k'=jb4 at hbulk4 hrest4 o2' o3'' ⊢;refine ui (az ea ?_);have M5:Mg a.toList b.toList (ot4.push xa).toList (ja3+1) jb4:=by rw[uP];exact hbulk4.pushA sa ea' hrest4
       by_cases d5:(ja3+1+1==a.size)=true
       ·rw[um d5];exact uk ⟨sg2.g _,.inl ⟨_,_,rfl,gV M5 sa sb h2 (by simpa using d5)⟩⟩
       rw[uo d5];have d5':¬ja3+1+1=a.size:=(by simpa using d5);split
       ·exact uk ⟨sg2.g _,.inr ⟨_,_,_,_,_,_,rfl,M5,by omega,o2',by omega⟩⟩
       ·exact uk ⟨sg2.g _,_,_,_,_,_,_,rfl,M5,by omega,o2',by omega⟩
      ·have k0':k'=0:=(by omega);subst k0';rw[Nat.add_zero]at hrest4;have o2':jb2+1<b.size:=(by omega);have o3'':x2+1+(ja1+jb1)<=ja3+(jb2+1):=(by omega);clear hbulk4;have hbulk4:=M3;generalize ot3.push xb=ot4 at hbulk4 ⊢;generalize jb2+1=jb4 at hbulk4 hrest4 o2' o3'' ⊢;refine ui (az ea ?_);have M5:Mg a.toList b.toList (ot4.push xa).toList (ja3+1) jb4:=by
        rw[uP];exact hbulk4.pushA sa ea' hrest4
       by_cases d5:(ja3+1+1==a.size)=true
       ·rw[um d5];exact uk ⟨sg2.g _,.inl ⟨_,_,rfl,gV M5 sa sb h2 (by simpa using d5)⟩⟩
       rw[uo d5];have d5':¬ja3+1+1=a.size:=(by simpa using d5);split
       ·exact uk ⟨sg2.g _,.inr ⟨_,_,_,_,_,_,rfl,M5,by omega,o2',by omega⟩⟩
       ·exact uk ⟨sg2.g _,_,_,_,_,_,_,rfl,M5,by omega,o2',by omega⟩
end
noncomputable def kg:Array Keyed->Array Keyed->SM (Array Keyed):=sortPriv% PySem.Builtin.mergeHi
noncomputable def rG(a b:Array Keyed):SM (Array Keyed):=do
 rule "list.sort.merge-hi"
 let tot:=a.size+b.size
 let dn (ot:Array Keyed) (ja jb:Nat):=a.extract 0 ja++b.extract 0 jb++ot.reverse
 let fb (ot:Array Keyed) (ja jb:Nat):=b.extract 0 jb++a.extract 0 ja++ot.reverse
 let mut ja:=a.size-1
 let mut jb:=b.size
 let mut ot:Array Keyed:= #[<-elem' a ja]
 if ja==0 then return dn ot ja jb
 if jb==1 then return fb ot ja jb
 let mut mg:=gallopOf (<-get)
 for _ in[0:tot] do
  let mut ac:=0
  let mut bc:=0
  for _ in[0:tot] do
   let some aw <-lt' (<-elem' b (jb-1)) (<-elem' a (ja-1))|return dn ot ja jb
   if aw then
    ja:=ja-1;ot:=ot.push (<-elem' a ja);ac:=ac+1;bc:=0
    if ja==0 then return dn ot ja jb
    if ac>=mg then break
   else
    jb:=jb-1;ot:=ot.push (<-elem' b jb);bc:=bc+1;ac:=0
    if jb==1 then return fb ot ja jb
    if bc>=mg then break
  rule "list.sort.gallop"
  mg:=mg+1
  for _ in[0:tot] do
   if mg>1 then mg:=mg-1
   (modify fun z=>setG z mg)
   let some kt <-dg false (<-elem' b (jb-1)) a 0 ja (ja-1)|return dn ot ja jb
   let k:=ja-kt
   ac:=k
   if k>0 then
    ot:=ot++(a.extract kt ja).reverse;ja:=kt
    if ja==0 then return dn ot ja jb
   jb:=jb-1;ot:=ot.push (<-elem' b jb)
   if jb==1 then return fb ot ja jb
   let some kt <-dg true (<-elem' a (ja-1)) b 0 jb (jb-1)|return dn ot ja jb
   let k:=jb-kt
   bc:=k
   if k>0 then
    ot:=ot++(b.extract kt jb).reverse;jb:=kt
    if jb==1 then return fb ot ja jb
    if jb==0 then return dn ot ja jb
   ja:=ja-1;ot:=ot.push (<-elem' a ja)
   if ja==0 then return dn ot ja jb
   if ac<7&&bc<7 then break
  mg:=mg+1
  (modify fun z=>setG z mg)
 unsupported "internal:list.sort.merge-bound"
theorem lp(a b:Array Keyed):kg a b=rG a b:=rfl
structure Mh(a b rv:List Keyed)(i j:Nat):Prop where
 pm:rv.Perm (a.drop i++b.drop j)
 so:rv.Pairwise fun x y=>kn x<=kn y
 le:∀y∈a.take i++b.take j,∀x∈rv,kn y<=kn x
theorem So.take{a:List Keyed}(h:So a)(i:Nat):So (a.take i):=List.Pairwise.sublist (List.take_sublist i a) h
theorem Mh.swap{a b rv:List Keyed}{i j:Nat}(h:Mh a b rv i j):Mh b a rv j i:=
 ⟨h.pm.trans List.perm_append_comm,h.so,fun y hy=>h.le y (by rcases uB.mp hy with v|v;exact uT _ v;exact vL _ v)⟩
theorem Mh.bulkA{a b rv:List Keyed}{i j t:Nat}(h:Mh a b rv i j)(sa:So a)(ht:t<=i)(hl:∀x∈(a.take i).drop t,∀y∈b.take j,kn y<=kn x):Mh a b ((a.take i).drop t++rv) t j:=by
 have st:=sa.take i;have sp:a.take i=a.take t++(a.take i).drop t:=by
  conv=>lhs;rw[<-u0 t (a.take i)]
  rw[List.take_take,Nat.min_eq_left ht]
 refine⟨?_,?_,fun y hy x hx=>?_⟩
 ·have e:a.drop t=(a.take i).drop t++a.drop i:=by
   conv=>lhs;rw[<-u0 i a]
   rw[List.drop_append];by_cases hi:i<=a.length
   ·rw[uG,Nat.min_eq_left hi,show t-i=0 by omega,List.drop_zero]
   ·rw[vO (show a.length<=i by omega),List.drop_nil]
  rw[e,uJ];exact h.pm.append_left _
 ·refine va.mpr ⟨st.drop t,h.so,fun x hx y hy=>h.le x (vL _ (vx hx)) y hy⟩
 ·rcases uB.mp hx with w|w
  ·rcases uB.mp hy with v|v
   ·rw[sp]at st;exact(va.mp st).2.2 y v x w
   ·exact hl x w y v
  ·rcases uB.mp hy with v|v
   ·exact h.le y (vL _ (by rw[sp];exact vL _ v)) x w
   ·exact h.le y (uT _ v) x w
theorem Mh.bulkB{a b rv:List Keyed}{i j t:Nat}(h:Mh a b rv i j)(sb:So b)(ht:t<=j)(hl:∀x∈(b.take j).drop t,∀y∈a.take i,kn y<=kn x):Mh a b ((b.take j).drop t++rv) i t:=(h.swap.bulkA sb ht hl).swap
theorem ko{a:List Keyed}{i:Nat}{x:Keyed}(e:a[i]?=some x):(a.take (i+1)).drop i=[x]:=by rw[iX e,List.drop_append_of_le_length (by rw[uG];have:=(ur.mp e).1;omega),vO (by rw[uG];omega),List.nil_append]
theorem Mh.pushA{a b rv:List Keyed}{i j:Nat}{x:Keyed}(h:Mh a b rv (i+1) j)(sa:So a)(e:a[i]?=some x)(hl:∀y∈b.take j,kn y<=kn x):Mh a b (x::rv) i j:=by have:=h.bulkA sa (Nat.le_succ i) (fun z hz y hy=>by rw[ko e,ux]at hz;rw[hz];exact hl y hy);rw[ko e]at this;exact this
theorem Mh.pushB{a b rv:List Keyed}{i j:Nat}{x:Keyed}(h:Mh a b rv i (j+1))(sb:So b)(e:b[j]?=some x)(hl:∀y∈a.take i,kn y<=kn x):Mh a b (x::rv) i j:=(h.swap.pushA sb e hl).swap
theorem Mh.fin{a b rv:List Keyed}{i j:Nat}(h:Mh a b rv i j)(sa:So a)(sb:So b)(hc:∀x∈a.take i,∀y∈b.take j,kn x<=kn y):Mgd a b (a.take i++b.take j++rv):=by
 refine⟨?_,?_⟩
 ·have p1:(a.take i++b.take j++rv).Perm ((a.take i++b.take j)++(a.drop i++b.drop j)):=h.pm.append_left _;refine p1.trans ?_;have p2:((a.take i++b.take j)++(a.drop i++b.drop j)).Perm ((a.take i++a.drop i)++(b.take j++b.drop j)):=by
   rw[uJ,uJ];refine List.Perm.append_left _ ?_;rw[<-uJ,<-uJ];exact List.perm_append_comm.append_right _
  rw[u0,u0]at p2;exact p2
 ·exact va.mpr ⟨va.mpr ⟨sa.take i,sb.take j,hc⟩,h.so,h.le⟩
theorem eK{a:Array Keyed}{j:Nat}:(a.extract 0 j).toList=a.toList.take j:=by rw[cK,List.drop_zero,Nat.sub_zero]
theorem jt{a:Array Keyed}{t j:Nat}:(a.extract t j).toList=(a.toList.take j).drop t:=by rw[cK,List.drop_take]
theorem e9{a b ot:Array Keyed}{jb:Nat}(h:Mh a.toList b.toList ot.toList.reverse 0 jb)(sa:So a.toList)(sb:So b.toList):Mgd a.toList b.toList (a.extract 0 0++b.extract 0 jb++ot.reverse).toList:=by rw[uN,uN,eK,eK,Array.toList_reverse];refine h.fin sa sb fun x hx=>?_;rw[List.take_zero]at hx;cases hx
theorem ou{a b ot:Array Keyed}{ja:Nat}(h:Mh a.toList b.toList ot.toList.reverse ja 0)(sa:So a.toList)(sb:So b.toList):Mgd a.toList b.toList (a.extract 0 ja++b.extract 0 0++ot.reverse).toList:=by rw[uN,uN,eK,eK,Array.toList_reverse];refine h.fin sa sb fun x _ y hy=>?_;rw[List.take_zero]at hy;cases hy
theorem iK{a b ot:Array Keyed}{ja:Nat}(h:Mh a.toList b.toList ot.toList.reverse ja 1)(sa:So a.toList)(sb:So b.toList)(h1:∀x,b.toList[0]?=some x->∀y∈a.toList,kn x<=kn y):
  Mgd a.toList b.toList (b.extract 0 1++a.extract 0 ja++ot.reverse).toList:=by
 rw[uN,uN,eK,eK,Array.toList_reverse];refine(h.swap.fin sb sa fun x hx y hy=>?_).swap;have:b.toList[0]?=some x:=by
  cases hb:b.toList with
  |nil=>rw[hb]at hx;cases hx
  |cons z l=>rw[hb]at hx;have:x=z:=(by simpa using hx);rw[this];rfl
 exact h1 x this y (vj hy)
theorem eD{a:List Keyed}(sa:So a){i:Nat}{x:Keyed}(e:a[i]?=some x):∀y∈a.take (i+1),kn y<=kn x:=fun y hy=>by
 have:=sa.take (i+1);rw[iX e]at this hy;rcases uB.mp hy with z|z
 ·exact(va.mp this).2.2 y z x (ux.mpr rfl)
 ·rw[ux.mp z];exact vX _
section
variable{prog:Program}{w:World}{A:Around}{E:Value->Shared->Prop}{s:Shared}[ia prog w A E s]
theorem oY{a b:Array Keyed}{st:SortSt}{Q:Array Keyed->SortSt->Prop}(hk:kindOf st=kd0)(ka:∀x∈a.toList,IsK x)(kb:∀x∈b.toList,IsK x)(sa:So a.toList)(sb:So b.toList)(na:1<=a.size)(nb:1<=b.size)
  (h1:∀x,b.toList[0]?=some x->∀y∈a.toList,kn x<=kn y) (h2:∀x∈b.toList,∀y,a.toList[a.size-1]?=some y->kn x<=kn y)
  (h:∀m st',SmG st st'->Mgd a.toList b.toList m.toList->Q m st'):wpS (model prog w) A E s (rG a b) Q st:=by
 unfold rG;refine ui (wpS_lift (wpAny_rule ⟨rfl,?_⟩));obtain⟨a0,e0,e0',m0⟩:=bF (a:=a) (i:=a.size-1) (by omega);refine ui (az e0 ?_);have M0:Mh a.toList b.toList (#[a0]:Array Keyed).toList.reverse (a.size-1) b.size:=by
  have z:Mh a.toList b.toList [] a.size b.size:=⟨by rw[vO (by rw[uu];omega),vO (by rw[uu];omega)];exact .nil,List.Pairwise.nil,fun _ _ _ hx=>nomatch hx⟩;have e:a.size=a.size-1+1:=by omega
  rw[e]at z;exact z.pushA sa e0' (fun y hy=>h2 y (vj hy) a0 e0')
 generalize hp:a.size-1=p at M0 e0 e0' ⊢;by_cases c1:(p==0)=true
 ·rw[um c1];have c1':p=0:=by simpa using c1
  subst c1';exact uk (h _ _ (SmG.refl st) (e9 M0 sa sb))
 rw[uo c1];by_cases c2:(b.size==1)=true
 ·rw[um c2];have c2':b.size=1:=by simpa using c2
  rw[c2']at M0;refine uk (h _ _ (SmG.refl st) ?_);rw[c2'];exact iK M0 sa sb h1
 rw[uo c2];have c1':¬p=0:=by simpa using c1
 have c2':¬b.size=1:=by simpa using c2
 refine ui (wpS_get ?_);refine ui (wpS_mono (vq (I:=fun x c st'=>SmG st st'/\∃ja jb ot mg,c=(none,ja,jb,ot,mg)/\Mh a.toList b.toList ot.toList.reverse ja jb/\1<=ja/\ja<=a.size/\2<=jb/\jb<=b.size/\x+1<=a.size+b.size-(ja+jb)) (Q:=fun c st'=>SmG st st'/\∃r y,c=(some r,y)/\Mgd a.toList b.toList r.toList) ?step ?fin ⟨SmG.refl st,_,_,_,_,rfl,M0,by omega,by omega,by omega,by omega,by omega⟩) ?post)
 case fin=>rintro c st' ⟨_,ja,jb,ot,mg,_,_,l1,l1',l2,l2',l3⟩;omega
 case post=>rintro c st' ⟨sg,r,y,rfl,hr⟩;exact uk (h r st' sg hr)
 case step=>
  rintro x c st1 _ hx ⟨sg,ja,jb,ot,mg,rfl,M,l1,l1',l2,l2',l3⟩;dsimp only;refine ui (wpS_mono (vq (I:=fun x1 c st'=>st'=st1/\∃ja1 jb1 ot1 ac bc,c=(none,ja1,jb1,ot1,ac,bc)/\Mh a.toList b.toList ot1.toList.reverse ja1 jb1/\1<=ja1/\ja1<=a.size/\2<=jb1/\jb1<=b.size/\x1+(a.size+b.size-(ja+jb))<=a.size+b.size-(ja1+jb1)) (Q:=fun c st'=>st'=st1/\((∃r y,c=(some r,y)/\Mgd a.toList b.toList r.toList)\/∃ja1 jb1 ot1 ac bc,c=(none,ja1,jb1,ot1,ac,bc)/\Mh a.toList b.toList ot1.toList.reverse ja1 jb1/\1<=ja1/\ja1<=a.size/\2<=jb1/\jb1<=b.size/\a.size+b.size-(ja+jb)<a.size+b.size-(ja1+jb1))) ?step1 ?fin1 ⟨rfl,ja,jb,ot,0,0,rfl,M,l1,l1',l2,l2',by omega⟩) ?post1)
  case fin1=>rintro c st' ⟨_,ja1,jb1,ot1,ac,bc,_,_,m1,m1',m2,m2',m3⟩;omega
  case step1=>
   rintro x1 c st' _ hx1 ⟨rfl,ja1,jb1,ot1,ac,bc,rfl,M1,m1,m1',m2,m2',m3⟩;obtain⟨p1,rfl⟩:∃p1,ja1=p1+1:=⟨ja1-1,by omega⟩;obtain⟨q1,rfl⟩:∃q1,jb1=q1+1:=⟨jb1-1,by omega⟩;simp only[Nat.add_sub_cancel];obtain⟨xb,eb,eb',mb⟩:=bF (a:=b) (show q1<b.size by omega);obtain⟨xa,ea,ea',ma⟩:=bF (a:=a) (show p1<a.size by omega);refine ui (az eb (ui (az ea (ui (fk (sg.kd.trans hk) (kb _ mb) (ka _ ma) ?_)))));dsimp only;by_cases aw:kn xb<kn xa
   ·rw[uD aw,um rfl];refine ui (az ea ?_);have M2:Mh a.toList b.toList (ot1.push xa).toList.reverse p1 (q1+1):=by
     rw[uP,vm];exact M1.pushA sa ea' fun y hy=>Int.le_of_lt (Int.lt_of_le_of_lt (eD sb eb' y hy) aw)
    by_cases d1:(p1==0)=true
    ·rw[um d1];have d1':p1=0:=(by simpa using d1);subst d1';exact uk ⟨rfl,.inl ⟨_,_,rfl,e9 M2 sa sb⟩⟩
    rw[uo d1];have d1':¬p1=0:=(by simpa using d1);by_cases d2:ac+1>=mg
    ·rw[um d2];exact uk ⟨rfl,.inr ⟨_,_,_,_,_,rfl,M2,by omega,by omega,m2,m2',by omega⟩⟩
    ·rw[uo d2];exact uk ⟨rfl,_,_,_,_,_,rfl,M2,by omega,by omega,m2,m2',by omega⟩
   ·rw[uQ aw,uo (by decide)];refine ui (az eb ?_);have M2:Mh a.toList b.toList (ot1.push xb).toList.reverse (p1+1) q1:=by
     rw[uP,vm];exact M1.pushB sb eb' fun y hy=>vH (eD sa ea' y hy) (Int.not_lt.mp aw)
    by_cases d1:(q1==1)=true
    ·rw[um d1];have d1':q1=1:=(by simpa using d1);subst d1';exact uk ⟨rfl,.inl ⟨_,_,rfl,iK M2 sa sb h1⟩⟩
    rw[uo d1];have d1':¬q1=1:=(by simpa using d1);by_cases d2:bc+1>=mg
    ·rw[um d2];exact uk ⟨rfl,.inr ⟨_,_,_,_,_,rfl,M2,m1,m1',by omega,by omega,by omega⟩⟩
    ·rw[uo d2];exact uk ⟨rfl,_,_,_,_,_,rfl,M2,m1,m1',by omega,by omega,by omega⟩
  case post1=>
   rintro c st' ⟨rfl,⟨r,y,rfl,hr⟩|⟨ja1,jb1,ot1,ac,bc,rfl,M1,m1,m1',m2,m2',m3⟩⟩
   ·exact uk ⟨sg,r,_,rfl,hr⟩
   dsimp only;refine ui (wpS_lift (wpAny_rule ⟨rfl,?_⟩));refine ui (wpS_mono (vq (I:=fun x2 c st'=>SmG st st'/\∃ja2 jb2 ot2 mg2 ac2 bc2,c=(none,ja2,jb2,ot2,mg2,ac2,bc2)/\Mh a.toList b.toList ot2.toList.reverse ja2 jb2/\1<=ja2/\ja2<=a.size/\2<=jb2/\jb2<=b.size/\x2+(a.size+b.size-(ja1+jb1))<=a.size+b.size-(ja2+jb2)) (Q:=fun c st'=>SmG st st'/\((∃r y,c=(some r,y)/\Mgd a.toList b.toList r.toList)\/∃ja2 jb2 ot2 mg2 ac2 bc2,c=(none,ja2,jb2,ot2,mg2,ac2,bc2)/\Mh a.toList b.toList ot2.toList.reverse ja2 jb2/\1<=ja2/\ja2<=a.size/\2<=jb2/\jb2<=b.size/\a.size+b.size-(ja1+jb1)<=a.size+b.size-(ja2+jb2))) ?step2 ?fin2 ⟨sg,ja1,jb1,ot1,_,_,_,rfl,M1,m1,m1',m2,m2',by omega⟩) ?post2)
   case fin2=>rintro c st' ⟨_,ja1,jb1,ot1,mg2,ac,bc,_,_,m1,m1',m2,m2',m3⟩;omega
   case post2=>
    rintro c st2 ⟨sg2,⟨r,y,rfl,hr⟩|⟨ja2,jb2,ot2,mg2,ac2,bc2,rfl,M2,o1,o1',o2,o2',o3⟩⟩
    ·exact uk ⟨sg2,r,_,rfl,hr⟩
    dsimp only;refine ui (wpS_modify ?_);exact uk ⟨sg2.g _,_,_,_,_,rfl,M2,o1,o1',o2,o2',by omega⟩
   case step2=>
    rintro x2 c st2 _ hx2 ⟨sg2,ja2,jb2,ot2,mg2,ac2,bc2,rfl,M2,o1,o1',o2,o2',o3⟩;obtain⟨p2,rfl⟩:∃p2,ja2=p2+1:=⟨ja2-1,by omega⟩;obtain⟨q2,rfl⟩:∃q2,jb2=q2+1:=⟨jb2-1,by omega⟩;simp only[Nat.add_sub_cancel];obtain⟨xb,eb,eb',mb⟩:=bF (a:=b) (show q2<b.size by omega);rcases Nat.lt_or_ge 1 mg2 with hmg|hmg
    all_goals
     first|rw[um hmg]|rw[uo (Nat.not_lt.mpr hmg)]
     refine ui (wpS_modify ?_);refine ui (az eb ?_);refine ui (c4 (a.toList.take (p2+1)) (sg2.kd.trans hk) (kb _ mb) (fun x hx=>ka x (vj hx)) (by rw[uG,uu];omega) (fun i hi=>?_) (sa.take (p2+1)) (by omega) fun ks k1 k2 k3=>?_)
     ·rw[vU hi,uE,Nat.zero_add]
     dsimp only;have hbulk:Mh a.toList b.toList (ot2++(a.extract ks (p2+1)).reverse).toList.reverse ks (q2+1):=by rw[uN,Array.toList_reverse,vm,List.reverse_reverse,jt];refine M2.bulkA sa k1 fun x hx y hy=>?_;have z:=k3 x hx;rw[uo (by decide)]at z;exact Int.le_of_lt (Int.lt_of_le_of_lt (eD sb eb' y hy) z)
     have hrest:∀y∈a.toList.take ks,kn y<=kn xb:=fun y hy=>by have hy':y∈(a.toList.take (p2+1)).take ks:=(by rw[List.take_take,Nat.min_eq_left k1];exact hy);have z:=k2 y hy';rw[uo (by decide)]at z;exact z
     rcases Nat.lt_or_ge 0 (p2+1-ks)with hk0|hk0
     all_goals first|rw[um hk0]|rw[uo (Nat.not_lt.mpr hk0)]
     ·by_cases d1:(ks==0)=true
      ·rw[um d1];have d1':ks=0:=(by simpa using d1);subst d1';exact uk ⟨sg2.g _,.inl ⟨_,_,rfl,e9 hbulk sa sb⟩⟩
      rw[uo d1];have d1':¬ks=0:=(by simpa using d1);obtain⟨p3,rfl⟩:∃p3,ks=p3+1:=⟨ks-1,by omega⟩;simp only[Nat.add_sub_cancel];have o4:p3+1<=a.size:=(by omega);have o5:x2+(a.size+b.size-(ja1+jb1))<=a.size+b.size-(p3+1+(q2+1)):=(by omega);generalize ot2++(a.extract (p3+1) (p2+1)).reverse=ot3 at hbulk ⊢;refine ui (az eb ?_);have M3:Mh a.toList b.toList (ot3.push xb).toList.reverse (p3+1) q2:=by rw[uP,vm];exact hbulk.pushB sb eb' hrest
      by_cases d3:(q2==1)=true
      ·rw[um d3];have d3':q2=1:=(by simpa using d3);subst d3';exact uk ⟨sg2.g _,.inl ⟨_,_,rfl,iK M3 sa sb h1⟩⟩
      rw[uo d3];have d3':¬q2=1:=(by simpa using d3);obtain⟨xa3,ea3,ea3',ma3⟩:=bF (a:=a) (show p3<a.size by omega);refine ui (az ea3 ?_);refine ui (c4 (b.toList.take q2) (sg2.kd.trans hk) (ka _ ma3) (fun x hx=>kb x (vj hx)) (by rw[uG,uu];omega) (fun i hi=>?_) (sb.take q2) (by omega) fun kt k1' k2' k3'=>?_)
      ·rw[vU hi,uE,Nat.zero_add]
      dsimp only;have hbulk4:Mh a.toList b.toList (ot3.push xb++(b.extract kt q2).reverse).toList.reverse (p3+1) kt:=by rw[uN,Array.toList_reverse,vm,List.reverse_reverse,jt];refine M3.bulkB sb k1' fun x hx y hy=>?_;have z:=k3' x hx;rw[um rfl]at z;exact vH (eD sa ea3' y hy) z
      have hrest4:∀xa,a.toList[p3]?=some xa->∀y∈b.toList.take kt,kn y<=kn xa:=fun xa exa y hy=>by rw[ea3']at exa;cases exa;have hy':y∈(b.toList.take q2).take kt:=(by rw[List.take_take,Nat.min_eq_left k1'];exact hy);have z:=k2' y hy';rw[um rfl]at z;exact Int.le_of_lt z
      rcases Nat.lt_or_ge 0 (q2-kt)with hk1|hk1
      all_goals first|rw[um hk1]|rw[uo (Nat.not_lt.mpr hk1)]
      ·by_cases d4:(kt==1)=true
       ·rw[um d4];have d4':kt=1:=(by simpa using d4);subst d4';exact uk ⟨sg2.g _,.inl ⟨_,_,rfl,iK hbulk4 sa sb h1⟩⟩
       rw[uo d4];have d4':¬kt=1:=(by simpa using d4);by_cases d6:(kt==0)=true
       ·rw[um d6];have d6':kt=0:=(by simpa using d6);subst d6';exact uk ⟨sg2.g _,.inl ⟨_,_,rfl,ou hbulk4 sa sb⟩⟩
       rw[uo d6];have d6':¬kt=0:=(by simpa using d6);have o2':2<=kt:=(by omega);have ob':kt<=b.size:=(by omega);have o3'':x2+1+ja1*0+(a.size+b.size-(ja1+jb1))<=a.size+b.size-(p3+1+kt):=(by omega);generalize ot3.push xb++(b.extract kt q2).reverse=ot4 at hbulk4 ⊢;generalize kt=jb4 at hbulk4 hrest4 o2' ob' o3'' ⊢;obtain⟨xa,ea,ea',ma⟩:=bF (a:=a) (show p3<a.size by omega);refine ui (az ea ?_);have M5:Mh a.toList b.toList (ot4.push xa).toList.reverse p3 jb4:=by rw[uP,vm];exact hbulk4.pushA sa ea' (hrest4 xa ea')
       by_cases d5:(p3==0)=true
       ·rw[um d5];have d5':p3=0:=(by simpa using d5);subst d5';exact uk ⟨sg2.g _,.inl ⟨_,_,rfl,e9 M5 sa sb⟩⟩
       rw[uo d5];have d5':¬p3=0:=(by simpa using d5);split
       ·exact uk ⟨sg2.g _,.inr ⟨_,_,_,_,_,_,rfl,M5,by omega,by omega,o2',by omega,by omega⟩⟩
       ·exact uk ⟨sg2.g _,_,_,_,_,_,_,rfl,M5,by omega,by omega,o2',by omega,by omega⟩
      ·have k0':kt=q2:=(by omega);subst k0';have o2':2<=kt:=(by omega);have ob':kt<=b.size:=(by omega);have o3'':x2+1+ja1*0+(a.size+b.size-(ja1+jb1))<=a.size+b.size-(p3+1+kt):=(by omega);clear hbulk4;have hbulk4:=M3;generalize ot3.push xb=ot4 at hbulk4 ⊢;generalize kt=jb4 at hbulk4 hrest4 o2' ob' o3'' ⊢;obtain⟨xa,ea,ea',ma⟩:=bF (a:=a) (show p3<a.size by omega);refine ui (az ea ?_);have M5:Mh a.toList b.toList (ot4.push xa).toList.reverse p3 jb4:=by
        rw[uP,vm];exact hbulk4.pushA sa ea' (hrest4 xa ea')
       by_cases d5:(p3==0)=true
       ·rw[um d5];have d5':p3=0:=(by simpa using d5);subst d5';exact uk ⟨sg2.g _,.inl ⟨_,_,rfl,e9 M5 sa sb⟩⟩
       rw[uo d5];have d5':¬p3=0:=(by simpa using d5);split
       ·exact uk ⟨sg2.g _,.inr ⟨_,_,_,_,_,_,rfl,M5,by omega,by omega,o2',by omega,by omega⟩⟩
       ·exact uk ⟨sg2.g _,_,_,_,_,_,_,rfl,M5,by omega,by omega,o2',by omega,by omega⟩
     ·have k0:ks=p2+1:=(by omega);subst k0;have o4:p2+1<=a.size:=(by omega);have o5:x2+(a.size+b.size-(ja1+jb1))<=a.size+b.size-(p2+1+(q2+1)):=o3;clear hbulk;have hbulk:=M2;generalize ot2=ot3 at hbulk ⊢;generalize p2=p3 at hbulk hrest o4 o5 ⊢;refine ui (az eb ?_);have M3:Mh a.toList b.toList (ot3.push xb).toList.reverse (p3+1) q2:=by
       rw[uP,vm];exact hbulk.pushB sb eb' hrest
      by_cases d3:(q2==1)=true
      ·rw[um d3];have d3':q2=1:=(by simpa using d3);subst d3';exact uk ⟨sg2.g _,.inl ⟨_,_,rfl,iK M3 sa sb h1⟩⟩
      rw[uo d3];have d3':¬q2=1:=(by simpa using d3);obtain⟨xa3,ea3,ea3',ma3⟩:=bF (a:=a) (show p3<a.size by omega);refine ui (az ea3 ?_);refine ui (c4 (b.toList.take q2) (sg2.kd.trans hk) (ka _ ma3) (fun x hx=>kb x (vj hx)) (by rw[uG,uu];omega) (fun i hi=>?_) (sb.take q2) (by omega) fun kt k1' k2' k3'=>?_)
      ·rw[vU hi,uE,Nat.zero_add]
      dsimp only;have hbulk4:Mh a.toList b.toList (ot3.push xb++(b.extract kt q2).reverse).toList.reverse (p3+1) kt:=by rw[uN,Array.toList_reverse,vm,List.reverse_reverse,jt];refine M3.bulkB sb k1' fun x hx y hy=>?_;have z:=k3' x hx;rw[um rfl]at z;exact vH (eD sa ea3' y hy) z
      have hrest4:∀xa,a.toList[p3]?=some xa->∀y∈b.toList.take kt,kn y<=kn xa:=fun xa exa y hy=>by rw[ea3']at exa;cases exa;have hy':y∈(b.toList.take q2).take kt:=(by rw[List.take_take,Nat.min_eq_left k1'];exact hy);have z:=k2' y hy';rw[um rfl]at z;exact Int.le_of_lt z
      rcases Nat.lt_or_ge 0 (q2-kt)with hk1|hk1
      all_goals first|rw[um hk1]|rw[uo (Nat.not_lt.mpr hk1)]
      ·by_cases d4:(kt==1)=true
       ·rw[um d4];have d4':kt=1:=(by simpa using d4);subst d4';exact uk ⟨sg2.g _,.inl ⟨_,_,rfl,iK hbulk4 sa sb h1⟩⟩
       rw[uo d4];have d4':¬kt=1:=(by simpa using d4);by_cases d6:(kt==0)=true
       ·rw[um d6];have d6':kt=0:=(by simpa using d6);subst d6';exact uk ⟨sg2.g _,.inl ⟨_,_,rfl,ou hbulk4 sa sb⟩⟩
       rw[uo d6];have d6':¬kt=0:=(by simpa using d6);have o2':2<=kt:=(by omega);have ob':kt<=b.size:=(by omega);have o3'':x2+1+ja1*0+(a.size+b.size-(ja1+jb1))<=a.size+b.size-(p3+1+kt):=(by omega);generalize ot3.push xb++(b.extract kt q2).reverse=ot4 at hbulk4 ⊢;generalize kt=jb4 at hbulk4 hrest4 o2' ob' o3'' ⊢;obtain⟨xa,ea,ea',ma⟩:=bF (a:=a) (show p3<a.size by omega);refine ui (az ea ?_);have M5:Mh a.toList b.toList (ot4.push xa).toList.reverse p3 jb4:=by rw[uP,vm];exact hbulk4.pushA sa ea' (hrest4 xa ea')
       by_cases d5:(p3==0)=true
       ·rw[um d5];have d5':p3=0:=(by simpa using d5);subst d5';exact uk ⟨sg2.g _,.inl ⟨_,_,rfl,e9 M5 sa sb⟩⟩
       rw[uo d5];have d5':¬p3=0:=(by simpa using d5);split
       ·exact uk ⟨sg2.g _,.inr ⟨_,_,_,_,_,_,rfl,M5,by omega,by omega,o2',by omega,by omega⟩⟩
       ·exact uk ⟨sg2.g _,_,_,_,_,_,_,rfl,M5,by omega,by omega,o2',by omega,by omega⟩
      ·have k0':kt=q2:=(by omega);subst k0';have o2':2<=kt:=(by omega);have ob':kt<=b.size:=(by omega);have o3'':x2+1+ja1*0+(a.size+b.size-(ja1+jb1))<=a.size+b.size-(p3+1+kt):=(by omega);clear hbulk4;have hbulk4:=M3;generalize ot3.push xb=ot4 at hbulk4 ⊢;generalize kt=jb4 at hbulk4 hrest4 o2' ob' o3'' ⊢;obtain⟨xa,ea,ea',ma⟩:=bF (a:=a) (show p3<a.size by omega);refine ui (az ea ?_);have M5:Mh a.toList b.toList (ot4.push xa).toList.reverse p3 jb4:=by
        rw[uP,vm];exact hbulk4.pushA sa ea' (hrest4 xa ea')
       by_cases d5:(p3==0)=true
       ·rw[um d5];have d5':p3=0:=(by simpa using d5);subst d5';exact uk ⟨sg2.g _,.inl ⟨_,_,rfl,e9 M5 sa sb⟩⟩
       rw[uo d5];have d5':¬p3=0:=(by simpa using d5);split
       ·exact uk ⟨sg2.g _,.inr ⟨_,_,_,_,_,_,rfl,M5,by omega,by omega,o2',by omega,by omega⟩⟩
       ·exact uk ⟨sg2.g _,_,_,_,_,_,_,rfl,M5,by omega,by omega,o2',by omega,by omega⟩
end
structure SA(a₀:Array Keyed)(z:SortSt)(lo:Nat)(st:SortSt):Prop where
 perm:(arrOf st).Perm a₀
 kind:kindOf st=kd0
 failed:failedOf st=none
 pend:pendingOf st=pendingOf z
 keep:∀k,k<lo->(arrOf st)[k]?=(arrOf z)[k]?
theorem SA.size{a₀:Array Keyed}{z:SortSt}{lo:Nat}{st:SortSt}(h:SA a₀ z lo st):(arrOf st).size=a₀.size:=h.perm.size_eq
theorem SA.at{a₀:Array Keyed}{z:SortSt}{lo:Nat}{st:SortSt}(h:SA a₀ z lo st)(h0:fQ a₀){i:Nat}(hi:i<a₀.size):∃p,(arrOf st)[i]?=some p/\IsK p/\kn p=K (arrOf st) i:=by
 have hi':i<(arrOf st).size:=by rw[h.size];exact hi
 have hm:(arrOf st)[i]∈a₀.toList:=(wj.mp h.perm).mem_iff.mp (by simp);have e:(arrOf st)[i]?=some (arrOf st)[i]:=getElem?_pos _ i hi';refine⟨_,e,h0 _ hm,?_⟩;unfold K;rw[e]
def bZ(xs:Array Keyed)(lo n:Nat):Prop:=∀i j,i<=j->j<n->K xs (lo+i)<=K xs (lo+j)
def lX(xs:Array Keyed)(lo n:Nat):Prop:=∀i j,i<=j->j<n->K xs (lo+j)<=K xs (lo+i)
theorem SA.mir{a₀:Array Keyed}{z:SortSt}{lo:Nat}{st:SortSt}(h:SA a₀ z lo st){i j d:Nat}(hi:lo<=i)(hj:j<=a₀.size)(hd:2*d<=j-i):SA a₀ z lo (setArr st (mirror (arrOf st) i j d)):=by refine⟨(mirror_perm _ _ _ _).trans h.perm,h.kind,h.failed,h.pend,fun k hk=>?_⟩;show(mirror (arrOf st) i j d)[k]?=_;rw[getElem?_mirror (by rw[h.size];exact hj) d hd,uo (by omega)];exact h.keep k hk
section
variable{prog:Program}{w:World}{A:Around}{E:Value->Shared->Prop}{s:Shared}[ia prog w A E s]{a₀:Array Keyed}{z:SortSt}{lo:Nat}
theorem fm{st:SortSt}{i j:Nat}{Q:Option Bool->SortSt->Prop}(hB:SA a₀ z lo st)(h0:fQ a₀)(hi:i<a₀.size)(hj:j<a₀.size)
  (h:Q (some (decide (K (arrOf st) i<K (arrOf st) j))) st):wpS (model prog w) A E s (ltAt' i j) Q st:=by
 obtain⟨p,e1,k1,n1⟩:=hB.at h0 hi;obtain⟨q,e2,k2,n2⟩:=hB.at h0 hj;rw[ltAt'_eq];refine ui (wpS_get ?_);show wpS _ _ _ _ (do let x <-elem' (arrOf st) i;let y <-elem' (arrOf st) j;lt' x y) Q st;rw[elem'_eq,elem'_eq,e1,e2];refine ui (uk (ui (uk ?_)));refine fk hB.kind k1 k2 ?_;rw[n1,n2];exact h
theorem kK{st:SortSt}{x0 nrem:Nat}{f:Nat->Option (Option Nat)×Nat->SM (ForInStep (Option (Option Nat)×Nat))}{k:Nat->Option Bool->SM (ForInStep (Option (Option Nat)×Nat))}{Q:Option (Option Nat)×Nat->SortSt->Prop}
  (hf:∀x n,f x (none,n)=ltAt' (lo+n) (lo+n-1)>>= k n) (hk:∀n b,k n (some b)=if b=true then pure (ForInStep.done (none,n))else pure (ForInStep.yield (none,n+1)))
  (h0:fQ a₀) (hB:SA a₀ z lo st) (hn:lo+nrem<=a₀.size) (h1:1<=x0) (h2:x0<=nrem) (hs:bZ (arrOf st) lo x0)
  (h:∀n,x0<=n->n<=nrem->bZ (arrOf st) lo n->(n=nrem\/K (arrOf st) (lo+n)<K (arrOf st) (lo+n-1))->Q (none,n) st):wpS (model prog w) A E s (forIn [x0:nrem] (none,x0) f) Q st:=by
 refine vq (I:=fun x c st'=>st'=st/\c=(none,x)/\bZ (arrOf st) lo x) ?step ?fin ⟨rfl,rfl,hs⟩
 case fin=>rintro c st' ⟨rfl,rfl,hs'⟩;rw[show max x0 nrem=nrem by omega]at hs' ⊢;exact h nrem h2 (uA _) hs' (.inl rfl)
 case step=>
  rintro x c st' hax hxn ⟨rfl,rfl,hs'⟩;rw[hf];refine ui (fm hB h0 (by omega) (by omega) ?_);rw[hk];by_cases hless:K (arrOf st') (lo+x)<K (arrOf st') (lo+x-1)
  ·rw[uD hless,um rfl];exact uk (h x hax (by omega) hs' (.inr hless))
  ·rw[uQ hless,uo (by decide)];refine uk ⟨rfl,rfl,fun i j hij hj=>?_⟩;by_cases hjx:j<x
   ·exact hs' i j hij hjx
   ·have hj':j=x:=(by omega);subst hj';by_cases hi':i=j
    ·subst hi';exact vX _
    ·have z1:=hs' i (j-1) (by omega) (by omega);rw[show lo+(j-1)=lo+j-1 by omega]at z1;exact vH z1 (Int.not_lt.mp hless)
theorem oZ{st:SortSt}{nrem:Nat}{Q:Option Nat->SortSt->Prop}(h0:fQ a₀)(hB:SA a₀ z lo st)(hn:lo+nrem<=a₀.size)(h1:1<=nrem)
  (h:∀m st',SA a₀ z lo st'->1<=m->m<=nrem->bZ (arrOf st') lo m->Q (some m) st'):wpS (model prog w) A E s (countRun' lo nrem) Q st:=by
 rw[countRun'_eq];have one:bZ (arrOf st) lo 1:=fun i j hij hj=>by
  have e:i=j:=by omega
  subst e;exact vX _
 refine ui (kK (fun _ _=>rfl) (fun _ _=>rfl) h0 hB hn (uA 1) h1 one fun n n1 n2 sn hor=>?_);dsimp only;by_cases c1:(n==nrem)=true
 ·rw[um c1];exact uk (h n st hB n1 n2 sn)
 rw[uo c1];have c1':¬n=nrem:=by simpa using c1
 have hlt:=hor.resolve_left c1';have n1r:n+1<=nrem:=by omega
 refine'(fun(tail:∀stD:SortSt,SA a₀ z lo stD->lX (arrOf stD) lo (n+1)->wpS (model prog w) A E s _ Q stD)=>?G) ?T
 case G=>
  by_cases hgt:n>1
  ·rw[um hgt];refine ui (fm hB h0 (by omega) (by omega) ?_);dsimp only;by_cases hrose:K (arrOf st) lo<K (arrOf st) (lo+n-1)
   ·rw[uD hrose,um rfl];exact uk (h n st hB n1 n2 sn)
   rw[uQ hrose,uo (by decide)];have hall:∀k,lo<=k->k<lo+n->K (arrOf st) k=K (arrOf st) (lo+n-1):=fun k g1 g2=>by have a1:=sn 0 (k-lo) (by omega) (by omega);have a2:=sn (k-lo) (n-1) (by omega) (by omega);rw[show lo+0=lo by omega,show lo+(k-lo)=k by omega]at a1;rw[show lo+(k-lo)=k by omega,show lo+(n-1)=lo+n-1 by omega]at a2;omega
   refine ui (wpS_reverse ?_);have hD:=hB.mir (i:=lo) (j:=lo+n) (d:=(lo+n-lo) / 2) (uA _) (by omega) (by omega);have sd:lX (arrOf (setArr st (mirror (arrOf st) lo (lo+n) ((lo+n-lo) / 2)))) lo (n+1):=fun i j hij hj=>by
    show K (mirror _ _ _ _) _<=K (mirror _ _ _ _) _;rw[K_mirror_equal (by rw[hB.size];omega) hall,K_mirror_equal (by rw[hB.size];omega) hall];by_cases hjn:j<n
    ·rw[hall (lo+i) (by omega) (by omega),hall (lo+j) (by omega) (by omega)];exact vX _
    ·have hj':j=n:=(by omega);subst hj';by_cases hi':i=j
     ·subst hi';exact vX _
     ·rw[hall (lo+i) (by omega) (by omega)];exact Int.le_of_lt hlt
   generalize (setArr st (mirror (arrOf st) lo (lo+n) ((lo+n-lo) / 2)))=stD at hD sd ⊢;exact tail _ hD sd
  ·rw[uo hgt];have e1:n=1:=(by omega);have hD:=hB;have sd:lX (arrOf st) lo (n+1):=fun i j hij hj=>by
    by_cases hi':i=j
    ·subst hi';exact vX _
    ·have hi0:i=0:=(by omega);have hj1:j=1:=(by omega);subst hi0;subst hj1;subst e1;exact Int.le_of_lt hlt
   generalize st=stD at hD sd ⊢;exact tail _ hD sd
 case T=>
  intro stD hD sd;refine ui (wpS_lift (wpAny_rule ⟨rfl,?_⟩));refine ui (wpS_mono (vq (I:=fun x c st'=>∃neq,c=(none,x,neq)/\SA a₀ z lo st'/\lX (arrOf st') lo x/\neq+1<=x/\∀i,x-(neq+1)<=i->i<x->K (arrOf st') (lo+i)=K (arrOf st') (lo+x-1)) (Q:=fun c st'=>∃m neq,c=(none,m,neq)/\n+1<=m/\m<=nrem/\SA a₀ z lo st'/\lX (arrOf st') lo m/\neq+1<=m/\∀i,m-(neq+1)<=i->i<m->K (arrOf st') (lo+i)=K (arrOf st') (lo+m-1)) ?dstep ?dfin ⟨0,rfl,hD,sd,by omega,fun i g1 g2=>by congr 1;omega⟩) ?dpost)
  case dfin=>rintro c st' ⟨neq,rfl,b1,b2,b3,b4⟩;rw[show max (n+1) nrem=nrem by omega]at b2 b3 b4 ⊢;exact⟨nrem,neq,rfl,by omega,uA _,b1,b2,b3,b4⟩
  case dstep=>
   rintro x c st' hax hxn ⟨neq,rfl,b1,b2,b3,b4⟩;dsimp only;refine ui (fm b1 h0 (by omega) (by omega) ?_);dsimp only;have heq:∀k,lo+x-(neq+1)<=k->k<lo+x->K (arrOf st') k=K (arrOf st') (lo+x-1):=fun k g1 g2=>by have:=b4 (k-lo) (by omega) (by omega);rw[show lo+(k-lo)=k by omega]at this;exact this
   by_cases hless:K (arrOf st') (lo+x)<K (arrOf st') (lo+x-1)
   ·rw[uD hless,um rfl];have step1:∀xs:Array Keyed,(∀k,K xs k=K (arrOf st') k)->lX xs lo (x+1):=by
     intro xs hk i j hij hj;rw[hk,hk];by_cases hjx:j<x
     ·exact b2 i j hij hjx
     ·have hj':j=x:=(by omega);subst hj';by_cases hi':i=j
      ·subst hi';exact vX _
      ·have z1:=b2 i (j-1) (by omega) (by omega);rw[show lo+(j-1)=lo+j-1 by omega]at z1;exact vH (Int.le_of_lt hless) z1
    by_cases hneq:neq>0
    ·rw[um hneq];refine ui (wpS_reverse (uk ⟨0,rfl,b1.mir (by omega) (by omega) (by omega),step1 _ (K_mirror_equal (by rw[b1.size];omega) heq),by omega,fun i g1 g2=>by congr 1;omega⟩))
    ·rw[uo hneq];exact uk ⟨0,rfl,b1,step1 _ (fun _=>rfl),by omega,fun i g1 g2=>by congr 1;omega⟩
   ·rw[uQ hless,uo (by decide)];refine ui (fm b1 h0 (by omega) (by omega) ?_);dsimp only;by_cases hlarger:K (arrOf st') (lo+x-1)<K (arrOf st') (lo+x)
    ·rw[uD hlarger,um rfl];exact uk ⟨x,neq,rfl,hax,by omega,b1,b2,b3,b4⟩
    ·rw[uQ hlarger,uo (by decide)];have heqx:K (arrOf st') (lo+x)=K (arrOf st') (lo+x-1):=(by omega);refine uk ⟨neq+1,rfl,b1,fun i j hij hj=>?_,by omega,fun i g1 g2=>?_⟩
     ·by_cases hjx:j<x
      ·exact b2 i j hij hjx
      ·have hj':j=x:=(by omega);subst hj';by_cases hi':i=j
       ·subst hi';exact vX _
       ·have z1:=b2 i (j-1) (by omega) (by omega);rw[show lo+(j-1)=lo+j-1 by omega]at z1;rw[heqx];exact z1
     ·rw[show lo+(x+1)-1=lo+x by omega];by_cases hix:i=x
      ·subst hix;rfl
      ·rw[heqx];exact b4 i (by omega) (by omega)
  case dpost=>
   rintro c st3 ⟨m,neq,rfl,m1,m2,b1,b2,b3,b4⟩;dsimp only;have heq:∀k,lo+m-(neq+1)<=k->k<lo+m->K (arrOf st3) k=K (arrOf st3) (lo+m-1):=fun k g1 g2=>by have:=b4 (k-lo) (by omega) (by omega);rw[show lo+(k-lo)=k by omega]at this;exact this
   by_cases hneq:neq>0
   ·rw[um hneq];refine ui (wpS_reverse ?_);have hD4:=b1.mir (i:=lo+m-(neq+1)) (j:=lo+m) (d:=(lo+m-(lo+m-(neq+1))) / 2) (by omega) (by omega) (by omega);have sd4:lX (arrOf (setArr st3 (mirror (arrOf st3) (lo+m-(neq+1)) (lo+m) ((lo+m-(lo+m-(neq+1))) / 2)))) lo m:=fun i j hij hj=>by
     show K (mirror _ _ _ _) _<=K (mirror _ _ _ _) _;rw[K_mirror_equal (by rw[b1.size];omega) heq,K_mirror_equal (by rw[b1.size];omega) heq];exact b2 i j hij hj
    generalize (setArr st3 (mirror (arrOf st3) (lo+m-(neq+1)) (lo+m) ((lo+m-(lo+m-(neq+1))) / 2)))=st4 at hD4 sd4 ⊢;have hD5:=hD4.mir (i:=lo) (j:=lo+m) (d:=(lo+m-lo) / 2) (uA _) (by omega) (by omega);refine ui (wpS_reverse ?_);have up5:bZ (mirror (arrOf st4) lo (lo+m) ((lo+m-lo) / 2)) lo m:=fun i j hij hj=>by rw[K_mirror (by rw[hD4.size];omega),K_mirror (by rw[hD4.size];omega),um (by omega),um (by omega)];have z1:=sd4 (m-1-j) (m-1-i) (by omega) (by omega);rw[show lo+(lo+m)-1-(lo+i)=lo+(m-1-i) by omega,show lo+(lo+m)-1-(lo+j)=lo+(m-1-j) by omega];exact z1
    refine ui (kK (fun _ _=>rfl) (fun _ _=>rfl) h0 hD5 hn (by omega) m2 up5 fun n5 q1 q2 q3 _=>?_);exact uk (h n5 _ hD5 (by omega) q2 q3)
   ·rw[uo hneq];have hD4:=b1;have sd4:=b2;generalize st3=st4 at hD4 sd4 ⊢;have hD5:=hD4.mir (i:=lo) (j:=lo+m) (d:=(lo+m-lo) / 2) (uA _) (by omega) (by omega);refine ui (wpS_reverse ?_);have up5:bZ (mirror (arrOf st4) lo (lo+m) ((lo+m-lo) / 2)) lo m:=fun i j hij hj=>by
     rw[K_mirror (by rw[hD4.size];omega),K_mirror (by rw[hD4.size];omega),um (by omega),um (by omega)];have z1:=sd4 (m-1-j) (m-1-i) (by omega) (by omega);rw[show lo+(lo+m)-1-(lo+i)=lo+(m-1-i) by omega,show lo+(lo+m)-1-(lo+j)=lo+(m-1-j) by omega];exact z1
    refine ui (kK (fun _ _=>rfl) (fun _ _=>rfl) h0 hD5 hn (by omega) m2 up5 fun n5 q1 q2 q3 _=>?_);exact uk (h n5 _ hD5 (by omega) q2 q3)
theorem SA.bub{st:SortSt}(h:SA a₀ z lo st){src d:Nat}(hs:src<a₀.size)(hd:lo+d<=src):SA a₀ z lo (setArr st (bubble (arrOf st) src d)):=by refine⟨(bubble_perm _ _ _).trans h.perm,h.kind,h.failed,h.pend,fun k hk=>?_⟩;show(bubble (arrOf st) src d)[k]?=_;rw[getElem?_bubble (by rw[h.size];exact hs) d (by omega),uo (by omega),uo (by omega)];exact h.keep k hk
theorem mJ{st:SortSt}{n ok:Nat}{Q:Bool->SortSt->Prop}(h0:fQ a₀)(hn:lo+n<=a₀.size)(hok:ok<=n)(hB:SA a₀ z lo st)(hs:bZ (arrOf st) lo ok)
  (h:∀st',SA a₀ z lo st'->bZ (arrOf st') lo n->Q true st'):wpS (model prog w) A E s (binarySort' lo n ok) Q st:=by
 rw[binarySort'_eq];refine ui (wpS_mono (vq (I:=fun k c st'=>c=(none,())/\SA a₀ z lo st'/\bZ (arrOf st') lo (min k n)) (Q:=fun c st'=>c=(none,())/\SA a₀ z lo st'/\bZ (arrOf st') lo n) ?step ?fin ?init) ?post)
 case post=>rintro c st' ⟨rfl,hB',hs'⟩;exact uk (h st' hB' hs')
 case init=>
  refine⟨rfl,hB,fun i j hij hj=>?_⟩;by_cases h1:ok=0
  ·have e:i=j:=(by omega);subst e;exact vX _
  ·exact hs i j hij (by omega)
 case fin=>rintro c st' ⟨hc,hB',hs'⟩;refine⟨hc,hB',?_⟩;rwa[show min (max (max ok 1) n) n=n by omega]at hs'
 case step=>
  rintro k c st' hak hkn ⟨rfl,hB',hs'⟩;rw[show min k n=k by omega]at hs';refine ui (wpS_mono (vq (I:=fun x c st''=>st''=st'/\∃l r,c=(none,l,r)/\l<=r/\r<=k/\r-l<=k-x/\ (∀i,i<l->K (arrOf st') (lo+i)<=K (arrOf st') (lo+k))/\(∀i,r<=i->i<k->K (arrOf st') (lo+k)<K (arrOf st') (lo+i))) (Q:=fun c st''=>st''=st'/\∃l r,c=(none,l,r)/\l<=k/\ (∀i,i<l->K (arrOf st') (lo+i)<=K (arrOf st') (lo+k))/\(∀i,l<=i->i<k->K (arrOf st') (lo+k)<K (arrOf st') (lo+i))) ?istep ?ifin ?iinit) ?ipost)
  case iinit=>exact⟨rfl,0,k,rfl,by omega,by omega,by omega,fun i hi=>by omega,fun i h1 h2=>by omega⟩
  case ifin=>rintro c st'' ⟨rfl,l,r,rfl,hlr,hrk,hm,hlo,hhi⟩;have e:l=r:=(by omega);subst e;exact⟨rfl,l,l,rfl,hrk,hlo,hhi⟩
  case istep=>
   rintro x c st'' _ hxk ⟨rfl,l,r,rfl,hlr,hrk,hm,hlo,hhi⟩;dsimp only;by_cases hge:l>=r
   ·rw[um hge];have e:l=r:=(by omega);subst e;exact uk ⟨rfl,l,l,rfl,hrk,hlo,hhi⟩
   ·rw[uo hge];refine ui (fm hB' h0 (by omega) (by omega) ?_);dsimp only;by_cases hless:K (arrOf st'') (lo+k)<K (arrOf st'') (lo+(l+r) / 2)
    ·rw[uD hless,um rfl];refine uk ⟨rfl,l,(l+r) / 2,rfl,by omega,by omega,by omega,hlo,fun i h1 h2=>?_⟩;exact Int.lt_of_lt_of_le hless (hs' _ _ h1 h2)
    ·rw[uQ hless,uo (by decide)];refine uk ⟨rfl,(l+r) / 2+1,r,rfl,by omega,by omega,by omega,fun i h1=>?_,hhi⟩;exact vH (hs' i ((l+r) / 2) (by omega) (by omega)) (Int.not_lt.mp hless)
  case ipost=>
   rintro c st'' ⟨rfl,l,r,rfl,hlk,hlo,hhi⟩;dsimp only;rw[moveDown'_eq];refine ui (wpS_modify (uk ⟨rfl,hB'.bub (by omega) (by omega),?_⟩));rw[show min (k+1) n=k+1 by omega];have hks:lo+k<(arrOf st'').size:=(by rw[hB'.size];omega);intro i j hij hj;show K (bubble (arrOf st'') (lo+k) (lo+k-(lo+l))) (lo+i)<=K (bubble (arrOf st'') (lo+k) (lo+k-(lo+l))) (lo+j);rw[K_bubble hks (by omega),K_bubble hks (by omega),show lo+k-(lo+k-(lo+l))=lo+l by omega];have e1:lo+i-1=lo+(i-1)\/i=0:=(by omega);have e2:lo+j-1=lo+(j-1)\/j=0:=(by omega);by_cases i1:i=l
   ·rw[um (by omega)];by_cases j1:j=l
    ·rw[um (by omega)];exact vX _
    ·rw[uo (by omega),um (by omega),show lo+j-1=lo+(j-1) by omega];exact Int.le_of_lt (hhi _ (by omega) (by omega))
   ·rw[uo (by omega)];by_cases i2:l<i
    ·rw[um (by omega),uo (by omega),um (by omega),show lo+i-1=lo+(i-1) by omega,show lo+j-1=lo+(j-1) by omega];exact hs' _ _ (by omega) (by omega)
    ·rw[uo (by omega)];by_cases j1:j=l
     ·rw[um (by omega)];exact hlo _ (by omega)
     ·rw[uo (by omega)];by_cases j2:l<j
      ·rw[um (by omega),show lo+j-1=lo+(j-1) by omega];exact hs' _ _ (by omega) (by omega)
      ·rw[uo (by omega)];exact hs' _ _ hij (by omega)
end
noncomputable def kh(i:Nat):SM Bool:=do
 let z <-get
 let (some (sa,na,pw),some (sb,nb,_)):=((pendingOf z)[i]?,(pendingOf z)[i+1]?)|unsupported "internal:list.sort.pending"
 set (setPending z (((pendingOf z).setIfInBounds i (sa,na+nb,pw)).eraseIdxIfInBounds (i+1)))
 let some k <-dg false (<-elem' (arrOf z) sb) (arrOf z) sa na 0|return false
 let (sa,na):=(sa+k,na-k)
 if na==0 then return true
 let some nb <-dg true (<-elem' (arrOf z) (sa+na-1)) (arrOf z) sb nb (nb-1)|return false
 if nb==0 then return true
 let x:=(arrOf z).extract sa sb
 let y:=(arrOf z).extract sb (sb+nb)
 let mm <-if na<=nb then kf x y else kg x y
 modify fun z=>setArr z (mm.toList.zipIdx.foldl (fun a (p,j)=>a.setIfInBounds (sa+j) p) (arrOf z))
 return (failedOf (<-get)).isNone
theorem lq(i:Nat):mergeAt' i=kh i:=rfl
theorem jD{xs:Array Keyed}{i:Nat}{x:Keyed}(e:xs.toList[i]?=some x):K xs i=kn x:=by unfold K kn;rw[<-uE,e]
noncomputable def seg(xs:Array Keyed)(lo n:Nat):List Keyed:=(xs.toList.drop lo).take n
theorem eI{xs:Array Keyed}{lo n:Nat}(h:lo+n<=xs.size):(seg xs lo n).length=n:=by unfold seg;rw[uG,vW,uu];omega
theorem seg_at{xs:Array Keyed}{lo n i:Nat}(hi:i<n):(seg xs lo n)[i]?=xs.toList[lo+i]? :=by unfold seg;rw[vU hi,List.getElem?_drop]
theorem iD{xs:Array Keyed}{lo n:Nat}(h:lo+n<=xs.size)(hs:bZ xs lo n):So (seg xs lo n):=by
 refine vA.mpr fun i j hi hj hij=>?_;rw[eI h]at hi hj;have e1:xs.toList[lo+i]?=some (seg xs lo n)[i]:=by rw[<-seg_at hi];exact uq (by rw[eI h];exact hi)
 have e2:xs.toList[lo+j]?=some (seg xs lo n)[j]:=by rw[<-seg_at hj];exact uq (by rw[eI h];exact hj)
 rw[<-jD e1,<-jD e2];exact hs i j (Nat.le_of_lt hij) hj
theorem iE{xs:Array Keyed}{lo n:Nat}(h:lo+n<=xs.size)(hs:So (seg xs lo n)):bZ xs lo n:=by
 intro i j hij hj;have hi:i<n:=by omega
 have l:=eI h;have e1:xs.toList[lo+i]?=some ((seg xs lo n)[i]'(by omega)):=by rw[<-seg_at hi];exact uq (by omega)
 have e2:xs.toList[lo+j]?=some ((seg xs lo n)[j]'(by omega)):=by rw[<-seg_at hj];exact uq (by omega)
 rw[jD e1,jD e2];rcases Nat.lt_or_eq_of_le hij with z|z
 ·exact vA.mp hs i j (by omega) (by omega) z
 ·subst z;exact vX _
noncomputable def layA(arr:Array Keyed)(off:Nat)(m:List Keyed):Array Keyed:=m.zipIdx.foldl (fun a (x:Keyed×Nat)=>a.setIfInBounds (off+x.2) x.1) arr
theorem iQ(off:Nat):∀(m:List (Keyed×Nat))(arr:Array Keyed),(m.foldl (fun a (x:Keyed×Nat)=>a.setIfInBounds (off+x.2) x.1) arr).size=arr.size
 | [],arr=>rfl
 |x::m,arr=>by rw[List.foldl_cons,iQ off m,Array.size_setIfInBounds]
theorem ky(off:Nat):∀(m:List Keyed)(t:Nat)(arr:Array Keyed),off+t+m.length<=arr.size->∀k:Nat,((m.zipIdx t).foldl (fun a (x:Keyed×Nat)=>a.setIfInBounds (off+x.2) x.1) arr)[k]?=if off+t<=k/\k<off+t+m.length then m[k-(off+t)]? else arr[k]?
 | [],t,arr,_,k=>by rw[List.zipIdx_nil,List.foldl_nil,uo (by simp)]
 |x::m,t,arr,hl,k=>by
  rw[wm]at hl;rw[List.zipIdx_cons,List.foldl_cons,ky off m (t+1) _ (by rw[Array.size_setIfInBounds];omega) k,wm];by_cases h1:off+(t+1)<=k/\k<off+(t+1)+m.length
  ·rw[um h1,um (by omega),show k-(off+t)=(k-(off+(t+1)))+1 by omega,List.getElem?_cons_succ]
  ·rw[uo h1];by_cases h2:k=off+t
   ·subst h2;rw[um (by omega),Nat.sub_self,Array.getElem?_setIfInBounds_self_of_lt (by omega)];rfl
   ·rw[uo (by omega),Array.getElem?_setIfInBounds_ne (by omega)]
theorem km{arr:Array Keyed}{off:Nat}{m:List Keyed}(h:off+m.length<=arr.size)(k:Nat):(layA arr off m)[k]?=if off<=k/\k<off+m.length then m[k-off]? else arr[k]? :=by have:=ky off m 0 arr (by omega) k;unfold layA;simpa using this
theorem iL{arr:Array Keyed}{off:Nat}{m:List Keyed}(h:off+m.length<=arr.size):(layA arr off m).toList=arr.toList.take off++(m++arr.toList.drop (off+m.length)):=by
 refine List.ext_getElem? fun k=>?_;rw[uE,km h];have lt:(arr.toList.take off).length=off:=by rw[uG,uu];omega
 by_cases h1:k<off
 ·rw[uo (by omega),List.getElem?_append_left (by omega),vU h1,uE]
 ·rw[wg (by omega),lt];by_cases h2:k<off+m.length
  ·rw[um (by omega),List.getElem?_append_left (by omega)]
  ·rw[uo (by omega),wg (by omega),List.getElem?_drop,show off+m.length+(k-off-m.length)=k by omega,uE]
theorem qj{a₀:Array Keyed}{xs:Array Keyed}(h0:fQ a₀)(pm:xs.Perm a₀):∀x∈xs.toList,IsK x:=fun x hx=>h0 x ((wj.mp pm).mem_iff.mp hx)
section
variable{prog:Program}{w:World}{A:Around}{E:Value->Shared->Prop}{s:Shared}[ia prog w A E s]{a₀:Array Keyed}
theorem oW{M:Model}{σ:Type}{x st:σ}{Q:PUnit->σ->Prop}(h:Q ⟨⟩ x):wpS M A E s (set x:StateT σ Sem PUnit) Q st:=by unfold wpS;rw[StateT.run_set];exact ug ⟨rfl,h⟩
theorem l9(xs:Array Keyed)(lo n m:Nat):seg xs lo (n+m)=seg xs lo n++seg xs (lo+n) m:=by unfold seg;rw[List.take_add,List.drop_drop]
theorem gG(xs:Array Keyed){lo n k:Nat}:(seg xs lo n).drop k=seg xs (lo+k) (n-k):=by unfold seg;rw[List.drop_take,List.drop_drop]
theorem gF(xs:Array Keyed){lo n k:Nat}(h:k<=n):(seg xs lo n).take k=seg xs lo k:=by unfold seg;rw[List.take_take,Nat.min_eq_left h]
theorem gv{xs:Array Keyed}{lo n:Nat}{x:Keyed}(h:x∈seg xs lo n):x∈xs.toList:=vx (vj h)
theorem oz(L:List Keyed)(off len:Nat):L=L.take off++((L.drop off).take len++L.drop (off+len)):=by conv=>lhs;rw[<-u0 off L,<-u0 len (L.drop off),List.drop_drop]
theorem jI{st:SortSt}{i sa na pa sb nb pb:Nat}{Q:Bool->SortSt->Prop}(h0:fQ a₀)(pm:(arrOf st).Perm a₀)(kd:kindOf st=kd0)(fl:failedOf st=none)
  (e1:(pendingOf st)[i]?=some (sa,na,pa)) (e2:(pendingOf st)[i+1]?=some (sb,nb,pb)) (hsb:sb=sa+na) (na1:1<=na) (nb1:1<=nb) (hz:sb+nb<=a₀.size) (ss:bZ (arrOf st) sa na) (sq:bZ (arrOf st) sb nb)
  (h:∀st',(arrOf st').Perm a₀->kindOf st'=kd0->failedOf st'=none->pendingOf st'=((pendingOf st).setIfInBounds i (sa,na+nb,pa)).eraseIdxIfInBounds (i+1)->bZ (arrOf st') sa (na+nb)-> (∀k,k<sa\/sa+na+nb<=k->K (arrOf st') k=K (arrOf st) k)->Q true st'):wpS (model prog w) A E s (mergeAt' i) Q st:=by
 subst hsb;rw[lq];unfold kh;refine ui (wpS_get ?_);dsimp only;rw[e1,e2];dsimp only;have sz:(arrOf st).size=a₀.size:=pm.size_eq;have ik:=qj h0 pm;generalize hX:arrOf st=X at pm sz ik ss sq ⊢;have soA:=iD (show sa+na<=X.size by omega) ss;have soB:=iD (show sa+na+nb<=X.size by omega) sq;have lA:(seg X sa na).length=na:=eI (by omega);have lB:(seg X (sa+na) nb).length=nb:=eI (by omega);obtain⟨xb,eb,eb',mb⟩:=bF (a:=X) (i:=sa+na) (by omega);obtain⟨xa,ea,ea',ma⟩:=bF (a:=X) (i:=sa+na-1) (by omega);have hb0:∀y∈seg X (sa+na) nb,kn xb<=kn y:=fun y hy=>eE soB (i:=0) (by rw[seg_at (by omega)];exact eb') y (by rw[List.drop_zero];exact hy);have haL:∀y∈seg X sa na,kn y<=kn xa:=fun y hy=>eD soA (i:=na-1) (by rw[seg_at (by omega),show sa+(na-1)=sa+na-1 by omega];exact ea') y (by rw[List.take_of_length_le (by omega)];exact hy);refine ui (oW ?_);refine ui (az eb ?_);refine ui (c4 (seg X sa na) kd (ik _ mb) (fun x hx=>ik x (gv hx)) lA (fun i hi=>by rw[seg_at hi,uE]) soA (by omega) fun k k1 k2 k3=>?_);dsimp only;have whole:(∀x∈seg X sa na,∀y∈seg X (sa+na) nb,kn x<=kn y)->bZ X sa (na+nb):=fun hc=>iE (by omega) (by rw[l9];exact va.mpr ⟨soA,soB,hc⟩);by_cases c1:(na-k==0)=true
 ·rw[um c1];have c1':na-k=0:=by simpa using c1
  refine uk (h _ (by rw[<-hX]at pm;exact pm) kd fl rfl ?_ fun _ _=>rfl);show bZ (arrOf st) sa (na+nb);rw[hX];refine whole fun x hx y hy=>?_;have z:=k2 x (by rw[List.take_of_length_le (by omega)];exact hx);rw[uo (by decide)]at z;exact vH z (hb0 y hy)
 rw[uo c1];have c1':¬na-k=0:=by simpa using c1
 rw[show sa+k+(na-k)-1=sa+na-1 by omega];refine ui (az ea ?_);refine ui (c4 (seg X (sa+na) nb) kd (ik _ ma) (fun x hx=>ik x (gv hx)) lB (fun i hi=>by rw[seg_at hi,uE]) soB (by omega) fun t t1 t2 t3=>?_);dsimp only;by_cases c2:(t==0)=true
 ·rw[um c2];have c2':t=0:=by simpa using c2
  refine uk (h _ (by rw[<-hX]at pm;exact pm) kd fl rfl ?_ fun _ _=>rfl);show bZ (arrOf st) sa (na+nb);rw[hX];refine whole fun x hx y hy=>?_;have z:=t3 y (by rw[c2',List.drop_zero];exact hy);rw[um rfl]at z;exact vH (haL x hx) z
 rw[uo c2];have c2':¬t=0:=by simpa using c2
 have eA:(X.extract (sa+k) (sa+na)).toList=(seg X sa na).drop k:=by rw[cK,gG,show sa+na-(sa+k)=na-k by omega];rfl
 have eB:(X.extract (sa+na) (sa+na+t)).toList=(seg X (sa+na) nb).take t:=by rw[cK,gF _ t1,show sa+na+t-(sa+na)=t by omega];rfl
 have zA:(X.extract (sa+k) (sa+na)).size=na-k:=by rw[<-uu,eA,vW,lA]
 have zB:(X.extract (sa+na) (sa+na+t)).size=t:=by rw[<-uu,eB,uG,lB];omega
 have g1:∀x∈(X.extract (sa+k) (sa+na)).toList,IsK x:=fun x hx=>by rw[eA]at hx;exact ik x (gv (vx hx))
 have g2:∀x∈(X.extract (sa+na) (sa+na+t)).toList,IsK x:=fun x hx=>by rw[eB]at hx;exact ik x (gv (vj hx))
 have g3:So (X.extract (sa+k) (sa+na)).toList:=by rw[eA];exact soA.drop k
 have g4:So (X.extract (sa+na) (sa+na+t)).toList:=by rw[eB];exact soB.take t
 have g5:∀x,(X.extract (sa+na) (sa+na+t)).toList[0]?=some x->∀y∈(X.extract (sa+k) (sa+na)).toList,kn x<=kn y:=fun x hx y hy=>by rw[eB,gF _ t1,seg_at (by omega),Nat.add_zero,eb']at hx;cases hx;rw[eA]at hy;have z:=k3 y hy;rw[uo (by decide)]at z;omega
 have g6:∀x∈(X.extract (sa+na) (sa+na+t)).toList,∀y,(X.extract (sa+k) (sa+na)).toList[(X.extract (sa+k) (sa+na)).size-1]?=some y->kn x<=kn y:=fun x hx y hy=>by rw[zA,eA,gG,seg_at (by omega),show sa+k+(na-k-1)=sa+na-1 by omega,ea']at hy;cases hy;rw[eB]at hx;have z:=t2 x hx;rw[um rfl]at z;omega
 have fin:∀(m:Array Keyed)(st2:SortSt),SmG (setPending st (((pendingOf st).setIfInBounds i (sa,na+nb,pa)).eraseIdxIfInBounds (i+1))) st2->Mgd (X.extract (sa+k) (sa+na)).toList (X.extract (sa+na) (sa+na+t)).toList m.toList->Q true (setArr st2 (layA (arrOf st2) (sa+k) m.toList)):=by
  intro m st2 sg ⟨mp,ms⟩;rw[eA,eB]at mp;have ml:m.toList.length=(na-k)+t:=by rw[mp.length_eq,uV,vW,uG,lA,lB];omega
  have eX:arrOf st2=X:=sg.ar.trans hX;have hoff:sa+k+m.toList.length<=X.size:=by omega
  have sS:seg X (sa+k) ((na-k)+t)=(seg X sa na).drop k++(seg X (sa+na) nb).take t:=by rw[l9,gG,gF _ t1,show sa+k+(na-k)=sa+na by omega]
  rw[eX];refine h _ ?_ (sg.kd.trans kd) (sg.fl.trans fl) sg.pd ?_ fun j hj=>?_
  ·show(layA X (sa+k) m.toList).Perm a₀;refine Array.Perm.trans (wj.mpr ?_) pm;rw[iL hoff,ml]
   conv=>rhs;rw[oz X.toList (sa+k) ((na-k)+t)]
   refine List.Perm.append_left _ (List.Perm.append_right _ ?_);have:(X.toList.drop (sa+k)).take ((na-k)+t)=(seg X sa na).drop k++(seg X (sa+na) nb).take t:=sS;rw[this];exact mp
  ·show bZ (layA X (sa+k) m.toList) sa (na+nb);have lz:(layA X (sa+k) m.toList).size=X.size:=iQ _ _ _;refine iE (by omega) ?_;have es:seg (layA X (sa+k) m.toList) sa (na+nb)=(seg X sa na).take k++(m.toList++(seg X (sa+na) nb).drop t):=by
    unfold seg;rw[iL hoff,ml,List.drop_append_of_le_length (by rw[uG,uu];omega),<-uJ];have q1:(X.toList.take (sa+k)).drop sa=((X.toList.drop sa).take na).take k:=by rw[List.drop_take,List.take_take,Nat.min_eq_left k1,show sa+k-sa=k by omega]
    have q2:(((X.toList.drop sa).take na).take k++m.toList).length=na+t:=by rw[uV,ml,uG];have:((X.toList.drop sa).take na).length=na:=lA;omega
    rw[q1,List.take_append,q2,List.take_of_length_le (by omega),uJ];congr 2;rw[List.drop_take,List.drop_drop,show na+nb-(na+t)=nb-t by omega,show sa+k+((na-k)+t)=sa+na+t by omega]
   rw[es];refine va.mpr ⟨soA.take k,va.mpr ⟨ms,soB.drop t,fun x hx y hy=>?_⟩,fun x hx y hy=>?_⟩
   ·rcases uB.mp (mp.mem_iff.mp hx)with v|v
    ·have z:=t3 y hy;rw[um rfl]at z;exact vH (haL x (vx v)) z
    ·have sB':=soB;rw[<-u0 t (seg X (sa+na) nb)]at sB';exact(va.mp sB').2.2 x v y hy
   ·have z:=k2 x hx;rw[uo (by decide)]at z;have za:∀y∈(seg X sa na).drop k,kn x<=kn y:=fun y hy=>by
     have sA':=soA;rw[<-u0 k (seg X sa na)]at sA';exact(va.mp sA').2.2 x hx y hy
    rcases uB.mp hy with v|v
    ·rcases uB.mp (mp.mem_iff.mp v)with u|u
     ·exact za y u
     ·exact vH z (hb0 y (vj u))
    ·exact vH z (hb0 y (vx v))
  ·refine K_congr ?_;show(layA X (sa+k) m.toList)[j]?=(arrOf st)[j]?;rw[hX,km hoff,uo (by omega)]
 by_cases c3:na-k<=t
 ·rw[um c3,lj];refine ui (oX kd g1 g2 g3 g4 (by omega) (by omega) g5 g6 fun m st2 sg mg=>?_);refine ui (wpS_modify (ui (wpS_get (uk ?_))));have e:(failedOf st2).isNone=true:=by rw[sg.fl,show failedOf (setPending st _)=failedOf st from rfl,fl];rfl
  show Q (failedOf st2).isNone _;rw[e];exact fin m st2 sg mg
 ·rw[uo c3,lp];refine ui (oY kd g1 g2 g3 g4 (by omega) (by omega) g5 g6 fun m st2 sg mg=>?_);refine ui (wpS_modify (ui (wpS_get (uk ?_))));have e:(failedOf st2).isNone=true:=by rw[sg.fl,show failedOf (setPending st _)=failedOf st from rfl,fl];rfl
  show Q (failedOf st2).isNone _;rw[e];exact fin m st2 sg mg
end
theorem rP{b:Prop}[Decidable b]{u v m:Nat}(h1:u+1<m)(h2:v+1<m):(if b then u else v)+1<m:=by
 split
 ·exact h1
 ·exact h2
noncomputable def Runs(xs:Array Keyed):Nat->List (Nat×Nat×Nat)->Nat->Prop
 |b,[],e=>b=e
 |b,(t,n,_)::p,e=>t=b/\1<=n/\bZ xs b n/\Runs xs (b+n) p e
theorem Runs.app{xs:Array Keyed}{p q:List (Nat×Nat×Nat)}{e:Nat}:∀{b:Nat},Runs xs b (p++q) e<->∃m,Runs xs b p m/\Runs xs m q e:=by
 induction p with
 |nil=>exact fun {b}=>⟨fun h=>⟨b,rfl,h⟩,fun⟨m,h1,h2⟩=>by cases h1;exact h2⟩
 |cons x p ih=>obtain⟨t,n,w⟩:=x;intro b;show(t=b/\1<=n/\bZ xs b n/\Runs xs (b+n) (p++q) e)<->_;rw[ih];exact⟨fun⟨h1,h2,h3,m,h4,h5⟩=>⟨m,⟨h1,h2,h3,h4⟩,h5⟩,fun⟨m,⟨h1,h2,h3,h4⟩,h5⟩=>⟨h1,h2,h3,m,h4,h5⟩⟩
theorem Runs.le{xs:Array Keyed}{e:Nat}:∀{p:List (Nat×Nat×Nat)}{b:Nat},Runs xs b p e->b+p.length<=e
 | [],b,h=>by cases h;exact uA _
 |(t,n,w)::p,b,h=>by obtain⟨_,h2,_,h4⟩:=h;have:=h4.le;rw[wm];omega
theorem bZ.of{xs ys:Array Keyed}{lo n:Nat}(h:bZ xs lo n)(k:∀i,lo<=i->i<lo+n->K ys i=K xs i):bZ ys lo n:=fun i j hij hj=>by rw[k (lo+i) (by omega) (by omega),k (lo+j) (by omega) (by omega)];exact h i j hij hj
theorem Runs.of{xs ys:Array Keyed}{e:Nat}:∀{p:List (Nat×Nat×Nat)}{b:Nat},Runs xs b p e->(∀i,b<=i->i<e->K ys i=K xs i)->Runs ys b p e
 | [],b,h,_=>h
 |(t,n,w)::p,b,h,k=>by obtain⟨h1,h2,h3,h4⟩:=h;have:=h4.le;exact⟨h1,h2,h3.of fun i g1 g2=>k i g1 (by omega),h4.of fun i g1 g2=>k i (by omega) g2⟩
theorem Runs.mod{xs:Array Keyed}{e:Nat}{f:Nat×Nat×Nat->Nat×Nat×Nat}(hf:∀x,(f x).1=x.1/\(f x).2.1=x.2.1):∀{p:List (Nat×Nat×Nat)}{b i:Nat},Runs xs b p e->Runs xs b (p.modify i f) e
 | [],b,i,h=>by cases i<;>exact h
 |(t,n,w)::p,b,0,h=>by
  obtain⟨h1,h2,h3,h4⟩:=h;obtain⟨f1,f2⟩:=hf (t,n,w);rw[List.modify_zero_cons];cases hx:f (t,n,w)with
  |mk t' x=>obtain⟨n',w'⟩:=x;rw[hx]at f1 f2;have f1':t'=t:=f1;have f2':n'=n:=f2;subst f1' f2';exact⟨h1,h2,h3,h4⟩
 |(t,n,w)::p,b,i+1,h=>by obtain⟨h1,h2,h3,h4⟩:=h;rw[List.modify_succ_cons];exact⟨h1,h2,h3,h4.mod hf⟩
theorem qy{p:List (Nat×Nat×Nat)}{i:Nat}{x y:Nat×Nat×Nat}(e1:p[i]?=some x)(e2:p[i+1]?=some y):p=p.take i++x::y::p.drop (i+2):=by obtain⟨h1,e1⟩:=ur.mp e1;obtain⟨h2,e2⟩:=ur.mp e2;rw[<-e1,<-e2,List.getElem_cons_drop,List.getElem_cons_drop,u0]
theorem pF{p:List (Nat×Nat×Nat)}{i:Nat}{x y v:Nat×Nat×Nat}(e1:p[i]?=some x)(e2:p[i+1]?=some y):(p.set i v).eraseIdx (i+1)=p.take i++v::p.drop (i+2):=by
 have h1:=(ur.mp e1).1;have h2:=(ur.mp e2).1;rw[List.eraseIdx_eq_take_drop_succ,List.take_set,List.drop_set_of_lt (by omega)];have:(p.take (i+1)).set i v=p.take i++[v]:=by rw[uM,e1];rw[List.set_append_right _ _ (by rw[uG];omega),uG,Nat.min_eq_left (by omega),Nat.sub_self];rfl
 rw[this,uJ];rfl
theorem two_list{p:Array (Nat×Nat×Nat)}{i:Nat}{x y v:Nat×Nat×Nat}(e1:p[i]?=some x)(e2:p[i+1]?=some y):((p.setIfInBounds i v).eraseIdxIfInBounds (i+1)).toList=p.toList.take i++v::p.toList.drop (i+2):=by rw[<-pF (p:=p.toList) (by rw[uE];exact e1) (by rw[uE];exact e2)];simp
section
variable{prog:Program}{w:World}{A:Around}{E:Value->Shared->Prop}{s:Shared}[ia prog w A E s]{a₀:Array Keyed}
structure SR(a₀:Array Keyed)(e:Nat)(st:SortSt):Prop where
 perm:(arrOf st).Perm a₀
 kind:kindOf st=kd0
 failed:failedOf st=none
 runs:Runs (arrOf st) 0 (pendingOf st).toList e
theorem iW{st:SortSt}{i e:Nat}{Q:Bool->SortSt->Prop}(h0:fQ a₀)(R:SR a₀ e st)(he:e<=a₀.size)(hi:i+1<(pendingOf st).size)
  (h:∀st',SR a₀ e st'->(pendingOf st').size+1=(pendingOf st).size->(∀k,e<=k->K (arrOf st') k=K (arrOf st) k)->Q true st'):wpS (model prog w) A E s (mergeAt' i) Q st:=by
 obtain⟨⟨sa,na,pa⟩,e1⟩:∃x,(pendingOf st)[i]?=some x:=⟨_,Array.getElem?_eq_getElem (by omega)⟩;obtain⟨⟨sb,nb,pb⟩,e2⟩:∃x,(pendingOf st)[i+1]?=some x:=⟨_,Array.getElem?_eq_getElem hi⟩;have cut:=qy (p:=(pendingOf st).toList) (by rw[uE];exact e1) (by rw[uE];exact e2);have rr:=R.runs;rw[cut]at rr;obtain⟨m,r1,t1,n1,s1,t2,n2,s2,r2⟩:=Runs.app.mp rr;subst t1;have le:=r2.le;refine jI h0 R.perm R.kind R.failed e1 e2 t2 n1 n2 (by omega) s1 (by rw[t2];exact s2) fun st' q1 q2 q3 q4 q5 q6=>h st' ⟨q1,q2,q3,?_⟩ ?_ fun k hk=>q6 k (by omega)
 ·rw[q4,two_list e1 e2];refine Runs.app.mpr ⟨_,r1.of fun i g1 g2=>q6 i (.inl g2),rfl,by omega,q5,?_⟩;rw[show sa+(na+nb)=sa+na+nb by omega];exact r2.of fun i g1 g2=>q6 i (.inr g1)
 ·have:=congrArg List.length (two_list (v:=(sa,na+nb,pa)) e1 e2);rw[<-q4,uu,uV,wm,uG,vW,uu]at this;omega
theorem gb{st:SortSt}{Q:Unit->SortSt->Prop}(h0:fQ a₀)(pm:(arrOf st).Perm a₀)(kd:kindOf st=kd0)(fl:failedOf st=none)(pd:pendingOf st= #[])(h2:1<=a₀.size)
  (h:∀st',(arrOf st').Perm a₀->failedOf st'=none->SortedTo (arrOf st') a₀.size->Q () st'):wpS (model prog w) A E s sortRuns' Q st:=by
 rw[sortRuns'_eq];refine ui (wpS_get ?_);dsimp only;have sz:(arrOf st).size=a₀.size:=pm.size_eq;rw[sz];refine ui (wpS_mono (vq (I:=fun x c st'=>∃lo,c=(none,lo)/\SR a₀ lo st'/\lo<=a₀.size/\x<=lo) (Q:=fun c st'=>c=(none,a₀.size)/\SR a₀ a₀.size st') ?step ?fin ⟨0,rfl,⟨pm,kd,fl,by rw[pd];rfl⟩,vg _,uA _⟩) ?post)
 case fin=>
  rintro c st' ⟨lo,rfl,R,l1,l2⟩;have:lo=a₀.size:=by omega
  subst this;exact⟨rfl,R⟩
 case step=>
  rintro x c st1 _ hx ⟨lo,rfl,R,l1,l2⟩;dsimp only;by_cases c1:lo>=a₀.size
  ·rw[um c1];have:lo=a₀.size:=(by omega);subst this;exact uk ⟨rfl,R⟩
  rw[uo c1];have B1:SA a₀ st1 lo st1:=⟨R.perm,R.kind,R.failed,rfl,fun _ _=>rfl⟩;refine ui (oZ h0 B1 (by omega) (by omega) fun m st2 B2 m1 m2 sn2=>?_);dsimp only;by_cases c2:m<minRun' a₀.size a₀.size 0
  ·rw[um c2];refine ui (wpS_lift (wpAny_rule ⟨rfl,?_⟩));generalize hN:min (a₀.size-lo) (minRun' a₀.size a₀.size 0)=N;have n1:1<=N:=(by omega);have n2:lo+N<=a₀.size:=(by omega);refine ui (mJ h0 n2 (by omega) B2 sn2 fun st3 B3 sn3=>?_)
   try dsimp only
   rw[uo (by decide)]
   have R3:SR a₀ lo st3:=⟨B3.perm,B3.kind,B3.failed,by
    rw[B3.pend]
    exact R.runs.of fun i _ g2=>K_congr (B3.keep i g2)⟩
   refine ui (wpS_get ?_);cases hb:(pendingOf st3).back? with
   |none=>dsimp only;have R5:=R3;have sn5:=sn3;generalize st3=st5 at R5 sn5 ⊢;refine ui (wpS_modify (uk ⟨lo+N,rfl,⟨R5.perm,R5.kind,R5.failed,?_⟩,by omega,by omega⟩));show Runs (arrOf st5) 0 ((pendingOf st5).push (lo,N,0)).toList (lo+N);rw[uP];exact Runs.app.mpr ⟨lo,R5.runs,rfl,n1,sn5,rfl⟩
   |some y=>
    obtain⟨s1,n1',w1⟩:=y;dsimp only;generalize power' a₀.size (2*s1+n1') (2*s1+n1'+n1'+N) a₀.size=pw;refine ui (wpS_mono (vq (I:=fun x c st'=>c=(none,())/\SR a₀ lo st'/\bZ (arrOf st') lo N) (Q:=fun c st'=>c=(none,())/\SR a₀ lo st'/\bZ (arrOf st') lo N) ?istep (fun c st' hh=>hh) ⟨rfl,R3,sn3⟩) ?ipost)
    case istep=>
     rintro x' c st' _ _ ⟨rfl,R4,sn4⟩;refine ui (wpS_get ?_);by_cases g1:(pendingOf st').size>1
     ·obtain⟨⟨q1,q2,q3⟩,e⟩:∃y,(pendingOf st')[(pendingOf st').size-2]?=some y:=⟨_,Array.getElem?_eq_getElem (by omega)⟩;rw[um g1,e];dsimp only;by_cases g2:q3<=pw
      ·rw[um g2];exact uk ⟨rfl,R4,sn4⟩
      ·rw[uo g2];refine ui (iW h0 R4 (by omega) (by omega) fun st6 R6 _ k6=>?_)
       try dsimp only
       rw[uo (by decide)];exact uk ⟨rfl,R6,sn4.of fun i g1 g2=>k6 i g1⟩
     ·rw[uo g1];exact uk ⟨rfl,R4,sn4⟩
    case ipost=>
    rintro c st4 ⟨rfl,R4,sn4⟩;dsimp only;refine ui (wpS_modify ?_)
    have R5:SR a₀ lo (setPending st4 ((pendingOf st4).modify ((pendingOf st4).size-1) fun x=>(x.fst,x.2.fst,pw))):=⟨R4.perm,R4.kind,R4.failed,by
     show Runs (arrOf st4) 0 ((pendingOf st4).modify ((pendingOf st4).size-1) fun x=>(x.fst,x.2.fst,pw)).toList lo;rw[Array.toList_modify]
     exact R4.runs.mod (f:=fun x=>(x.fst,x.2.fst,pw)) fun x=>⟨rfl,rfl⟩⟩
    have sn5:bZ (arrOf (setPending st4 ((pendingOf st4).modify ((pendingOf st4).size-1) fun x=>(x.fst,x.2.fst,pw)))) lo N:=sn4;generalize (setPending st4 ((pendingOf st4).modify ((pendingOf st4).size-1) fun x=>(x.fst,x.2.fst,pw)))=st5 at R5 sn5 ⊢;refine ui (wpS_modify (uk ⟨lo+N,rfl,⟨R5.perm,R5.kind,R5.failed,?_⟩,by omega,by omega⟩));show Runs (arrOf st5) 0 ((pendingOf st5).push (lo,N,0)).toList (lo+N);rw[uP];exact Runs.app.mpr ⟨lo,R5.runs,rfl,n1,sn5,rfl⟩
  ·rw[uo c2];have n1:=m1;have n2:lo+m<=a₀.size:=(by omega);have B3:=B2;have sn3:=sn2;generalize st2=st3 at B3 sn3 ⊢;generalize m=N at n1 n2 sn3 ⊢
   have R3:SR a₀ lo st3:=⟨B3.perm,B3.kind,B3.failed,by
    rw[B3.pend]
    exact R.runs.of fun i _ g2=>K_congr (B3.keep i g2)⟩
   refine ui (wpS_get ?_);cases hb:(pendingOf st3).back? with
   |none=>dsimp only;have R5:=R3;have sn5:=sn3;generalize st3=st5 at R5 sn5 ⊢;refine ui (wpS_modify (uk ⟨lo+N,rfl,⟨R5.perm,R5.kind,R5.failed,?_⟩,by omega,by omega⟩));show Runs (arrOf st5) 0 ((pendingOf st5).push (lo,N,0)).toList (lo+N);rw[uP];exact Runs.app.mpr ⟨lo,R5.runs,rfl,n1,sn5,rfl⟩
   |some y=>
    obtain⟨s1,n1',w1⟩:=y;dsimp only;generalize power' a₀.size (2*s1+n1') (2*s1+n1'+n1'+N) a₀.size=pw;refine ui (wpS_mono (vq (I:=fun x c st'=>c=(none,())/\SR a₀ lo st'/\bZ (arrOf st') lo N) (Q:=fun c st'=>c=(none,())/\SR a₀ lo st'/\bZ (arrOf st') lo N) ?istep (fun c st' hh=>hh) ⟨rfl,R3,sn3⟩) ?ipost)
    case istep=>
     rintro x' c st' _ _ ⟨rfl,R4,sn4⟩;refine ui (wpS_get ?_);by_cases g1:(pendingOf st').size>1
     ·obtain⟨⟨q1,q2,q3⟩,e⟩:∃y,(pendingOf st')[(pendingOf st').size-2]?=some y:=⟨_,Array.getElem?_eq_getElem (by omega)⟩;rw[um g1,e];dsimp only;by_cases g2:q3<=pw
      ·rw[um g2];exact uk ⟨rfl,R4,sn4⟩
      ·rw[uo g2];refine ui (iW h0 R4 (by omega) (by omega) fun st6 R6 _ k6=>?_)
       try dsimp only
       rw[uo (by decide)];exact uk ⟨rfl,R6,sn4.of fun i g1 g2=>k6 i g1⟩
     ·rw[uo g1];exact uk ⟨rfl,R4,sn4⟩
    case ipost=>
    rintro c st4 ⟨rfl,R4,sn4⟩;dsimp only;refine ui (wpS_modify ?_)
    have R5:SR a₀ lo (setPending st4 ((pendingOf st4).modify ((pendingOf st4).size-1) fun x=>(x.fst,x.2.fst,pw))):=⟨R4.perm,R4.kind,R4.failed,by
     show Runs (arrOf st4) 0 ((pendingOf st4).modify ((pendingOf st4).size-1) fun x=>(x.fst,x.2.fst,pw)).toList lo;rw[Array.toList_modify]
     exact R4.runs.mod (f:=fun x=>(x.fst,x.2.fst,pw)) fun x=>⟨rfl,rfl⟩⟩
    have sn5:bZ (arrOf (setPending st4 ((pendingOf st4).modify ((pendingOf st4).size-1) fun x=>(x.fst,x.2.fst,pw)))) lo N:=sn4;generalize (setPending st4 ((pendingOf st4).modify ((pendingOf st4).size-1) fun x=>(x.fst,x.2.fst,pw)))=st5 at R5 sn5 ⊢;refine ui (wpS_modify (uk ⟨lo+N,rfl,⟨R5.perm,R5.kind,R5.failed,?_⟩,by omega,by omega⟩));show Runs (arrOf st5) 0 ((pendingOf st5).push (lo,N,0)).toList (lo+N);rw[uP];exact Runs.app.mpr ⟨lo,R5.runs,rfl,n1,sn5,rfl⟩
 case post=>
  rintro c st1 ⟨rfl,R⟩;dsimp only;have l0:=R.runs.le;rw[uu]at l0;refine ui (wpS_mono (vq (I:=fun x c st'=>c=(none,())/\SR a₀ a₀.size st'/\(pendingOf st').size+x<=a₀.size) (Q:=fun c st'=>c=(none,())/\SR a₀ a₀.size st'/\(pendingOf st').size<=1) ?fstep ?ffin ⟨rfl,R,by omega⟩) ?fpost)
  case ffin=>rintro c st' ⟨rfl,R',l⟩;exact⟨rfl,R',by omega⟩
  case fstep=>
   rintro x c st' _ hx ⟨rfl,R',l⟩;refine ui (wpS_get ?_);by_cases g1:(pendingOf st').size<=1
   ·rw[um g1];exact uk ⟨rfl,R',g1⟩
   ·rw[uo g1];refine ui (iW h0 R' (uA _) ?_ fun st6 R6 l6 _=>?_)
    ·exact rP (by omega) (by omega)
    ·try dsimp only
     rw[uo (by decide)];exact uk ⟨rfl,R6,by omega⟩
  case fpost=>
   rintro c st' ⟨rfl,R',l⟩;refine uk (h st' R'.perm R'.failed ?_);have rr:=R'.runs;have ll:(pendingOf st').toList.length<=1:=(by rw[uu];exact l);generalize (pendingOf st').toList=p at rr ll
   match p,rr,ll with
   | [],rr,_=>have:0=a₀.size:=rr;omega
   | [(t,n,w)],rr,_=>obtain⟨_,_,q3,q4⟩:=rr;have q4':0+n=a₀.size:=q4;intro i j hij hj;have:=q3 i j hij (by omega);rw[Nat.zero_add,Nat.zero_add]at this;exact this
   |_::_::_,_,ll=>simp at ll
end
end LT
namespace LT
open PySem PySem.Spec PyProof.Rows L2
section
variable{prog:Program}{w:World}{A:Around}{E:Value->Shared->Prop}{s:Shared}
theorem kz{v:Value}{Q:Bool->Shared->Prop}(hv:(v==v)=true)(q:Q true s):wpAny (model prog w) A (eqBool v v) Q E s:=by unfold eqBool;refine wpAny_holding ?_;rw[hv];exact uf (wpAny_rule (ug q))
end
theorem fJ{α β:Type}{f:α->β}:∀{zs:List α}{l:List β},l.Perm (zs.map f)->∃ys:List α,ys.Perm zs/\l=ys.map f:=by
 intro zs l h;generalize hm:zs.map f=m at h
 induction h generalizing zs with
 |nil=>rw[List.map_eq_nil_iff]at hm;subst hm;exact⟨[],.nil,rfl⟩
 |cons x _ ih=>obtain⟨z,zs',rfl,rfl,rfl⟩:=List.map_eq_cons_iff.mp hm;obtain⟨ys,h1,h2⟩:=ih rfl;exact⟨z::ys,h1.cons z,by rw[vi,h2]⟩
 |swap x y l=>obtain⟨z,zs',rfl,rfl,h2⟩:=List.map_eq_cons_iff.mp hm;obtain⟨z2,zs2,rfl,rfl,rfl⟩:=List.map_eq_cons_iff.mp h2;exact⟨z2::z::zs2,.swap z z2 zs2,rfl⟩
 |trans _ _ ih1 ih2=>obtain⟨ys,h1,rfl⟩:=ih2 hm;obtain⟨ws,h3,rfl⟩:=ih1 rfl;exact⟨ws,h3.trans h1,rfl⟩
section
variable{prog:Program}{w:World}{A:Around}{E:Value->Shared->Prop}{s:Shared}
theorem fj{M:Model}{α:Type}{f:Value->Sem α}{g:Value->α}:∀{vs:List Value}{Q:List α->Shared->Prop},(∀v∈vs,∀{R:α->Shared->Prop},R (g v) s->wpAny M A (f v) R E s)->Q (vs.map g) s->wpAny M A (vs.mapM f) Q E s
 | [],Q,_,q=>by rw[List.mapM_nil];exact ug q
 |v::vs,Q,h,q=>by rw[List.mapM_cons];refine uf (h v (uy ..) (uf (fj (g:=g) (fun u hu=>h u (uv _ hu)) (ug q))))
theorem firstT (v : Value) : firstOfTuple' v = (do if (← typeOf v) != .type "tuple" then return none
                                                   return (← Builtin.List.listItems v)[0]?) := rfl
end
end LT
namespace L2
open PySem PySem.W
theorem ah{X:Cx}{body:List Stmt}{Z:TS->Prop}(n:Nat){u:TS}(r:PSs X (body.drop n) u)(k:let R:=u;PSs X (body.drop n) R->∃t,PSs X body t/\Z t):∃t,PSs X body t/\Z t:=k r
theorem aZ{X:Cx}{body:List Stmt}{Z:TS->Prop}(k:let Y:=X;∃t,PSs Y body t/\Z t):∃t,PSs X body t/\Z t:=k
theorem tm{P:List Value->Prop}(h:∀a0,P [a0])(us:List Value)(hl:us.length=1):P us:=by
 cases us with
 |nil=>cases hl
 |cons a0 us=>exact(show P (a0::us)from by cases us with|nil=>exact h a0|cons b us=>cases hl)
theorem tj{P:List Value->Prop}(h:∀a0 a1,P [a0,a1])(us:List Value)(hl:us.length=2):P us:=by
 cases us with
 |nil=>cases hl
 |cons a0 us=>exact tm (P:=fun us=>P (a0::us)) (h a0) us (Nat.succ.inj hl)
theorem ti{P:List Value->Prop}(h:∀a0 a1 a2,P [a0,a1,a2])(us:List Value)(hl:us.length=3):P us:=by
 cases us with
 |nil=>cases hl
 |cons a0 us=>exact tj (P:=fun us=>P (a0::us)) (h a0) us (Nat.succ.inj hl)
theorem th{P:List Value->Prop}(h:∀a0 a1 a2 a3,P [a0,a1,a2,a3])(us:List Value)(hl:us.length=4):P us:=by
 cases us with
 |nil=>cases hl
 |cons a0 us=>exact ti (P:=fun us=>P (a0::us)) (h a0) us (Nat.succ.inj hl)
theorem tf{P:List Value->Prop}(h:∀a0 a1 a2 a3 a4,P [a0,a1,a2,a3,a4])(us:List Value)(hl:us.length=5):P us:=by
 cases us with
 |nil=>cases hl
 |cons a0 us=>exact th (P:=fun us=>P (a0::us)) (h a0) us (Nat.succ.inj hl)
theorem sZ{P:List Value->Prop}(h:∀a0 a1 a2 a3 a4 a5,P [a0,a1,a2,a3,a4,a5])(us:List Value)(hl:us.length=6):P us:=by
 cases us with
 |nil=>cases hl
 |cons a0 us=>exact tf (P:=fun us=>P (a0::us)) (h a0) us (Nat.succ.inj hl)
theorem t7{P:List Value->Prop}(h:∀a0 a1 a2 a3 a4 a5 a6,P [a0,a1,a2,a3,a4,a5,a6])(us:List Value)(hl:us.length=7):P us:=by
 cases us with
 |nil=>cases hl
 |cons a0 us=>exact sZ (P:=fun us=>P (a0::us)) (h a0) us (Nat.succ.inj hl)
end L2
namespace L2
open PySem PySem.Spec PyProof.Rows
section
variable{X:Cx}{tg:Expr}
def qV(P:Program)(w:World)(K:Frag)(neg:Bool)(ty td:TE):TE:=fun σ H Q=>ty σ H fun y H1=>td σ H1 fun x H2=>∃d o T b c,x=.ref d/\cu P w K H2 d o T/\y=.ref b/\dR K H2 b c/\Q (.bl (if neg then !(atT T c).isSome else(atT T c).isSome)) H2
theorem iH{i o:Expr}{td ty:TE}(hu:X.A.units+64<cLine)(hi:PE X i ty)(ho:PE X o td):PC X .NotIn i o (qV X.prog X.w X.K true ty td):=by
 intro pins s σ H Q I h;refine thn (hi pins s σ H _ I h) fun iv s1 hPz=>L2.ep3 hPz fun y H1 I1 ry q1=>thn (ho pins s1 σ H1 _ I1 q1) fun u s2 hPz=>?_;obtain⟨x,H2,I2,rx,d,ob,T,b,c,ex,hc,ey,hb,q2⟩:=hPz;subst ex ey;cases rx;cases ry;obtain⟨h1,h2,h3,h4⟩:=hc;obtain⟨vs,rv,DD⟩:=h2.dict I2 h1 h4;refine wpAny_notIn_heap (show X.A.in1.units+3<cLine by simp only[Around.in1_units];omega) (hb.is I2) h3 DD ?_;have e:(atKey vs c).isSome=(atT T c).isSome:=by rcases qN (c:=c) rv with⟨z1,z2⟩|⟨v',p,z1,z2,_⟩<;>rw[z1,z2]<;>rfl
 rw[e];exact⟨.bl _,H2,I2.tok _,rfl,q2⟩
end
end L2
namespace L2
theorem mN{α:Type}{P:α->Prop}:∀p∈([]:List α),P p:=fun _ h=>nomatch h
theorem mC{α:Type}{P:α->Prop}{a:α}{l:List α}(h:P a)(t:∀p∈l,P p):∀p∈a::l,P p:=fun p hp=>by
 cases hp with
 |head=>exact h
 |tail _ hp=>exact t p hp
end L2
namespace L2
open PySem PySem.W
theorem dD{g:(St->Hp->Prop)->Prop}{t:TS}{D:Ends}(k:let D':=D;g fun σ2 H2=>t D' σ2 H2):g (fun σ2 H2=>t D σ2 H2):=k
theorem iN{t:TS}{D:Ends}{σ:St}{H:Hp}(k:let D':=D;t D' σ H):t D σ H:=k
theorem iO{g:(St->Hp->Prop)->Prop}{tt:TT}{te:TE}{q:VK}{r:Hp->Prop}(k:let q':=q;let r':=r;g fun σ2 H4=>tt σ2 H4 fun b H5=>if b=true then te σ2 H5 q' else r' H5):g (fun σ2 H4=>tt σ2 H4 fun b H5=>if b=true then te σ2 H5 q else r H5):=k
noncomputable def sF:Stmt->List Stmt
 | .For _ _ b _ _=>b
 | .While _ b _ _=>b
 |_=>[]
theorem aC{X:Cx}{body:List Stmt}{Z:TS->Prop}(k j:Nat){u:TS}(r:PSs X ((sF (body.getD k (.Pass ⟨0,0,0,0⟩))).drop j) u)(h:let R:=u;PSs X ((sF (body.getD k (.Pass ⟨0,0,0,0⟩))).drop j) R->∃t,PSs X body t/\Z t):∃t,PSs X body t/\Z t:=h r
end L2
namespace PySem
namespace F
theorem jm:typeLookup (.type "list") "keys"=pure none:=by rw[typeLookup_type,builtinLookup_eq_fast];kernel_rfl
theorem dO:typeLookup (.type "list") "__getattr__"=pure none:=by rw[typeLookup_type,builtinLookup_eq_fast];kernel_rfl
end F
section
variable{prog:Program}{w:World}{A:Around}{E:Value->Shared->Prop}{h:Heap}{g:Array GenState}{d:Drawn}{t:Nat}{os:OsState}{a:Addr}{o:Obj}
theorem gp{tk:Tok}{Q:Fin->Shared->Prop}(hh:A.handled=none)(hx:h.get? a=some o)(hc:o.cls=.type "list"){its:Array Value}{n:Nat}(hd:o.data=.seq its n)(hn:o.dict=none)
  (hq:∀h' t' e,gA h h' e->E (.ref e) ⟨h',g,d,t',os⟩):
  wpAny (model prog w) A (Builtin.«object.__getattribute__» ⟨[.ref a,.str "keys" tk],[]⟩) Q E ⟨h,g,d,t,os⟩:=by
 have hT:(⟨h,g,d,t,os⟩:Shared).TypeIs (.ref a) "list":=⟨_,hx,hc⟩;have f4:=F.jm;have f5:=F.dO
 repeat (any_goals (first|assumption|wp_step))
 rw[hd];dsimp only
 repeat (any_goals (first|assumption|wp_step))
 rw[hc,hn];dsimp only
 repeat (any_goals (first|assumption|wp_step))
 exact ig hh (by decide+kernel) hq
theorem gZ{tk:Tok}{R:Result->Shared->Prop}(hh:A.handled=none)(hx:h.get? a=some o)(hc:o.cls=.type "list"){its:Array Value}{n:Nat}(hd:o.data=.seq its n)(hn:o.dict=none)
  (hq:∀h' t' e,gA h h' e->R (.error (.ref e)) ⟨h',g,d,t',os⟩):
  codeAny (model prog w) A (.call (.builtin "list.__getattribute__") ⟨[.ref a,.str "keys" tk],[]⟩) R ⟨h,g,d,t,os⟩:=
 codeAny_call_builtin F.slot_list_getattribute.plain F.entry_list_ga (F.slot_list_getattribute.check _ _ _ _ _ _ _ _ (show(⟨h,g,d,t,os⟩:Shared).TypeIs (.ref a) "list" from⟨_,hx,hc⟩) (F.args_list_getattribute_2 _ _)
  (gp (by simpa using hh) hx hc hd hn hq))
theorem jq{tk:Tok}{Q:Value->Shared->Prop}(hh:A.handled=none)(hx:h.get? a=some o)(hc:o.cls=.type "list"){its:Array Value}{n:Nat}(hd:o.data=.seq its n)(hn:o.dict=none)
  (hq:∀h' t' e,gA h h' e->E (.ref e) ⟨h',g,d,t',os⟩):wpAny (model prog w) A (getAttrBy (.ref a) (.str "keys" tk) false) Q E ⟨h,g,d,t,os⟩:=by
 have hT:(⟨h,g,d,t,os⟩:Shared).TypeIs (.ref a) "list":=⟨_,hx,hc⟩;have f2:=F.slot_list_getattribute.lookup;have f3:=F.slot_list_getattribute.bind (.ref a);have f5:=F.dO
 repeat (any_goals (first|assumption|wp_step))
 refine gZ hh hx hc hd hn fun h' t' e he=>?_;obtain⟨oe,ho,hce⟩:=he.2;have hTe:(⟨h',g,d,t',os⟩:Shared).TypeIs (.ref e) "AttributeError":=⟨_,ho,hce⟩;have f6:=F.gB;have hq':=hq h' t' e he
 repeat (any_goals (first|assumption|wp_step))
theorem g0{Q:Option Value->Shared->Prop}(hh:A.handled=none)(hx:h.get? a=some o)(hc:o.cls=.type "list"){its:Array Value}{n:Nat}(hd:o.data=.seq its n)(hn:o.dict=none)
  (hq:∀h' t',(∀b ob,h.get? b=some ob->h'.get? b=some ob)->Q none ⟨h',g,d,t',os⟩):wpAny (model prog w) A (getAttr? (.ref a) "keys") Q E ⟨h,g,d,t,os⟩:=by
 unfold getAttr? getAttrBy?;refine uf (wpAny_mkText ?_);refine uf (wpAny_attempt (jq hh hx hc hd hn fun h' t' e he=>?_));obtain⟨oe,ho,hce⟩:=he.2;dsimp only;refine uf (wpAny_isInstance (T:="AttributeError") (b:=true) ⟨_,ho,hce⟩ F.gB ?_);rw[um rfl];exact ug (hq _ _ he.1)
end
end PySem
namespace LO
inductive Dr|e|n|w|s
deriving DecidableEq
namespace Dr
noncomputable def lf:Dr->Dr|e=>n|n=>w|w=>s|s=>e
noncomputable def rt:Dr->Dr|e=>s|s=>w|w=>n|n=>e
noncomputable def dx:Dr->Int|e=>1|n=>0|w=>-1|s=>0
noncomputable def dy:Dr->Int|e=>0|n=>1|w=>0|s=>-1
noncomputable def cx:Dr->Int->Int|e,x=>x|n,x=>x-1|w,x=>x-1|s,x=>x
noncomputable def cy:Dr->Int->Int|e,y=>y|n,y=>y|w,y=>y-1|s,y=>y-1
end Dr
@[ext] structure Sd where
 x:Int
 y:Int
 d:Dr
deriving DecidableEq
noncomputable abbrev Gr:=Int->Int->Bool
noncomputable def at4(G:Gr)(x y:Int)(d:Dr):Bool:=G (d.cx x) (d.cy y)
noncomputable def brd(G:Gr)(s:Sd):Bool:=at4 G s.x s.y s.d&& !at4 G s.x s.y s.d.rt
noncomputable def Sd.ex(s:Sd):Int:=s.x+s.d.dx
noncomputable def Sd.ey(s:Sd):Int:=s.y+s.d.dy
noncomputable def nxt(G:Gr)(s:Sd):Sd:=if brd G ⟨s.ex,s.ey,s.d.lf⟩=true then⟨s.ex,s.ey,s.d.lf⟩else if brd G ⟨s.ex,s.ey,s.d⟩=true then⟨s.ex,s.ey,s.d⟩else⟨s.ex,s.ey,s.d.rt⟩
theorem oA(d:Dr):d.lf.rt=d:=by cases d<;>rfl
theorem sJ(d:Dr):d.rt.lf=d:=by cases d<;>rfl
theorem mw(G:Gr)(s:Sd):at4 G s.ex s.ey s.d.lf=at4 G s.x s.y s.d:=by obtain⟨x,y,d⟩:=s;cases d<;>simp[at4,Sd.ex,Sd.ey,Dr.lf,Dr.dx,Dr.dy,Dr.cx,Dr.cy]<;>congr 1<;>omega
theorem mv(G:Gr)(s:Sd):at4 G s.ex s.ey s.d.lf.lf=at4 G s.x s.y s.d.rt:=by obtain⟨x,y,d⟩:=s;cases d<;>simp[at4,Sd.ex,Sd.ey,Dr.lf,Dr.rt,Dr.dx,Dr.dy,Dr.cx,Dr.cy]<;>congr 1<;>omega
theorem qI(d:Dr):d.rt.rt=d.lf.lf:=by cases d<;>rfl
theorem ba{G:Gr}{s:Sd}:brd G s=true<->at4 G s.x s.y s.d=true/\at4 G s.x s.y s.d.rt=false:=by unfold brd;rw[vo,Bool.not_eq_true']
theorem dz{G:Gr}{s:Sd}(h:brd G s=true):nxt G s=⟨s.ex,s.ey,if at4 G s.ex s.ey s.d=false then s.d.lf else if at4 G s.ex s.ey s.d.rt=false then s.d else s.d.rt⟩:=by
 obtain⟨h1,h2⟩:=ba.mp h;have e1:brd G ⟨s.ex,s.ey,s.d.lf⟩= !at4 G s.ex s.ey s.d:=by show(at4 G s.ex s.ey s.d.lf&& !at4 G s.ex s.ey s.d.lf.rt)=_;rw[mw,h1,oA];rfl
 have e2:brd G ⟨s.ex,s.ey,s.d⟩=(at4 G s.ex s.ey s.d&& !at4 G s.ex s.ey s.d.rt):=rfl;unfold nxt;rw[e1,e2];cases at4 G s.ex s.ey s.d<;>cases at4 G s.ex s.ey s.d.rt<;>rfl
theorem mi{G:Gr}{s:Sd}(h:brd G s=true):brd G (nxt G s)=true:=by
 obtain⟨h1,h2⟩:=ba.mp h;rw[dz h,ba];have l:=mw G s;have r:=mv G s;rw[h1]at l;rw[h2]at r;cases a:at4 G s.ex s.ey s.d with
 |false=>show at4 G s.ex s.ey s.d.lf=true/\at4 G s.ex s.ey s.d.lf.rt=false;rw[oA];exact⟨l,a⟩
 |true=>
  cases b:at4 G s.ex s.ey s.d.rt with
  |false=>exact⟨a,b⟩
  |true=>show at4 G s.ex s.ey s.d.rt=true/\at4 G s.ex s.ey s.d.rt.rt=false;rw[qI];exact⟨b,r⟩
theorem j8{G:Gr}{s t:Sd}(h:brd G s=true)(e:nxt G s=t):s=⟨t.x-(if at4 G t.x t.y t.d.lf=false then t.d.rt else if at4 G t.x t.y t.d.rt.rt=false then t.d else t.d.lf).dx,t.y-(if at4 G t.x t.y t.d.lf=false then t.d.rt else if at4 G t.x t.y t.d.rt.rt=false then t.d else t.d.lf).dy,if at4 G t.x t.y t.d.lf=false then t.d.rt else if at4 G t.x t.y t.d.rt.rt=false then t.d else t.d.lf⟩:=by
 obtain⟨h1,h2⟩:=ba.mp h;have l:=mw G s;have r:=mv G s;rw[h1]at l;rw[h2]at r;have key:(if at4 G t.x t.y t.d.lf=false then t.d.rt else if at4 G t.x t.y t.d.rt.rt=false then t.d else t.d.lf)=s.d:=by
  rw[<-e,dz h];cases a:at4 G s.ex s.ey s.d with
  |false=>show(if at4 G s.ex s.ey s.d.lf.lf=false then s.d.lf.rt else _)=_;rw[r,oA];rfl
  |true=>
   cases b:at4 G s.ex s.ey s.d.rt with
   |false=>show(if at4 G s.ex s.ey s.d.lf=false then s.d.rt else if at4 G s.ex s.ey s.d.rt.rt=false then s.d else s.d.lf)=_;rw[l,qI,r];rfl
   |true=>show(if at4 G s.ex s.ey s.d.rt.lf=false then s.d.rt.rt else if at4 G s.ex s.ey s.d.rt.rt.rt=false then s.d.rt else s.d.rt.lf)=_;have x3:s.d.rt.rt.rt=s.d.lf:=(by cases s.d<;>rfl);rw[sJ,a,x3,l];rfl
 rw[key];have ex:t.x=s.ex:=by rw[<-e,dz h]
 have ey:t.y=s.ey:=by rw[<-e,dz h]
 rw[ex,ey];ext
 ·show s.x=s.x+s.d.dx-s.d.dx;omega
 ·show s.y=s.y+s.d.dy-s.d.dy;omega
 ·rfl
theorem p7{G:Gr}{s t:Sd}(hs:brd G s=true)(ht:brd G t=true)(e:nxt G s=nxt G t):s=t:=by have a:=j8 hs rfl;have b:=j8 ht rfl;rw[e]at a;exact a.trans b.symm
noncomputable def itr(G:Gr)(s:Sd):Nat->Sd
 | 0=>s
 |k+1=>nxt G (itr G s k)
theorem cg{G:Gr}{s:Sd}(h:brd G s=true):∀k,brd G (itr G s k)=true
 | 0=>h
 |k+1=>mi (cg h k)
noncomputable def wlk(G:Gr)(s:Sd)(n:Nat):List Sd:=(List.range n).map (itr G s)
theorem fo(G:Gr)(s:Sd)(n:Nat):wlk G s (n+1)=wlk G s n++[itr G s n]:=by unfold wlk;rw[List.range_succ,List.map_append];rfl
theorem pj{G:Gr}{s:Sd}(h:brd G s=true){n:Nat}(nd:(wlk G s n).Nodup)(ne:itr G s n≠s):itr G s n∉wlk G s n:=fun z=>by
 obtain⟨j,hj,e⟩:=uO.mp z;rw[vI]at hj;cases j with
 |zero=>exact ne e.symm
 |succ j=>
  cases n with
  |zero=>cases hj
  |succ n=>have e':=p7 (cg h j) (cg h n) e;have:=vA.mp (List.nodup_iff_pairwise_ne.mp nd) j n (by unfold wlk;rw[uj,vG];omega) (by unfold wlk;rw[uj,vG];omega) (by omega);unfold wlk at this;rw[List.getElem_map,List.getElem_map,List.getElem_range,List.getElem_range]at this;exact this e'
structure kJ(G:Gr)(W:List Sd):Prop where
 ex:∃s n,brd G s=true/\0<n/\W=wlk G s n/\itr G s n=s
 nd:W.Nodup
theorem kJ.brd{G:Gr}{W:List Sd}(h:kJ G W):∀t∈W,brd G t=true:=fun t ht=>by obtain⟨s,n,hb,_,rfl,_⟩:=h.ex;obtain⟨j,_,rfl⟩:=uO.mp ht;exact cg hb j
theorem kJ.cl{G:Gr}{W:List Sd}(h:kJ G W):∀t∈W,nxt G t∈W:=fun t ht=>by
 obtain⟨s,n,hb,h0,rfl,e⟩:=h.ex;obtain⟨j,hj,rfl⟩:=uO.mp ht;rw[vI]at hj;by_cases z:j+1=n
 ·have:nxt G (itr G s j)=s:=by
   show itr G s (j+1)=s;rw[z];exact e
  rw[this];exact uO.mpr ⟨0,vI.mpr h0,rfl⟩
 ·exact uO.mpr ⟨j+1,vI.mpr (by omega),rfl⟩
theorem o9{G:Gr}{s:Sd}{n:Nat}{X:Sd->Prop}(cl:∀t,X t->X (nxt G t))(e:itr G s n=s)(ns:¬X s):∀t∈wlk G s n,¬X t:=fun t ht hx=>by
 obtain⟨j,hj,rfl⟩:=uO.mp ht;rw[vI]at hj;have key:∀m,X (itr G s (j+m)):=fun m=>by
  induction m with
  |zero=>exact hx
  |succ m ih=>exact cl _ ih
 have:=key (n-j);rw[show j+(n-j)=n by omega,e]at this;exact ns this
noncomputable abbrev Pt:=Int×Int
noncomputable def Sd.st(s:Sd):Pt:=(s.x,s.y)
noncomputable def Sd.en(s:Sd):Pt:=(s.ex,s.ey)
noncomputable def cor:Dr->List Sd->List Pt
 |_,[]=>[]
 |d,s::W=>if s.d≠d then s.st::cor s.d W else cor s.d W
inductive Chn:Pt->List Sd->Prop
 |nil {p:Pt}:Chn p []
 |cons {p:Pt} {s:Sd} {W:List Sd}:s.st=p->Chn s.en W->Chn p (s::W)
noncomputable def ju:Pt->List Sd->Pt
 |p,[]=>p
 |_,s::W=>ju s.en W
section
variable{A:Type}(op:A->A->A)(u:A)(f:Pt->Pt->A)
noncomputable def cM:Pt->List Pt->A
 |_,[]=>u
 |c,q::qs=>op (f c q) (cM q qs)
noncomputable def cF:List Sd->A
 | []=>u
 |s::W=>op (f s.st s.en) (cF W)
structure jH:Prop where
 as:∀a b c,op (op a b) c=op a (op b c)
 cm:∀a b,op a b=op b a
 un:∀a,op u a=a
 z:∀p,f p p=u
 ln:∀(c:Pt)(d:Dr)(k:Nat),f c (c.1+k*d.dx+d.dx,c.2+k*d.dy+d.dy)=op (f c (c.1+k*d.dx,c.2+k*d.dy)) (f (c.1+k*d.dx,c.2+k*d.dy) (c.1+k*d.dx+d.dx,c.2+k*d.dy+d.dy))
variable{op u f}
theorem gL(h:jH op u f):∀(W:List Sd)(c:Pt)(d:Dr)(k:Nat),Chn (c.1+k*d.dx,c.2+k*d.dy) W->cM op u f c (cor d W++[ju (c.1+k*d.dx,c.2+k*d.dy) W])=op (f c (c.1+k*d.dx,c.2+k*d.dy)) (cF op u f W)
 | [],c,d,k,_=>rfl
 |s::W,c,d,k,.cons e t=>by
  have e2:s.en=(s.st.1+s.d.dx,s.st.2+s.d.dy):=rfl;by_cases z:s.d=d
  ·have e3:cor d (s::W)=cor s.d W:=uo (fun y=>y z);have e4:s.en=(c.1+(k+1:Nat)*d.dx,c.2+(k+1:Nat)*d.dy):=by
    rw[e2,e,z];ext
    ·show c.1+k*d.dx+d.dx=c.1+(k+1:Nat)*d.dx;rw[we,Int.add_mul];omega
    ·show c.2+k*d.dy+d.dy=c.2+(k+1:Nat)*d.dy;rw[we,Int.add_mul];omega
   have e5:s.en=(c.1+k*d.dx+d.dx,c.2+k*d.dy+d.dy):=(by rw[e2,e,z]);rw[e3,z];show cM op u f c (cor d W++[ju s.en W])=op _ (op (f s.st s.en) (cF op u f W));have ih:=gL h W c d (k+1) (by rw[<-e4];exact t);rw[<-e4]at ih;rw[ih,<-h.as,e,e5,h.ln c d k]
  ·have e3:cor d (s::W)=s.st::cor s.d W:=um z;rw[e3];show op (f c s.st) (cM op u f s.st (cor s.d W++[ju s.en W]))=op _ (op (f s.st s.en) (cF op u f W));have e4:s.en=(s.st.1+(1:Nat)*s.d.dx,s.st.2+(1:Nat)*s.d.dy):=by
    rw[e2];ext
    ·show s.st.1+s.d.dx=s.st.1+(1:Nat)*s.d.dx;omega
    ·show s.st.2+s.d.dy=s.st.2+(1:Nat)*s.d.dy;omega
   have ih:=gL h W s.st s.d 1 (by rw[<-e4];exact t);rw[<-e4]at ih;rw[ih,e]
theorem iG(h:jH op u f):∀(qs:List Pt)(c z:Pt),cM op u f c (qs++[z])=op (cM op u f c qs) (f ((c::qs).getLast (wo _ _)) z)
 | [],c,z=>by show op (f c z) u=op u (f c z);exact h.cm _ _
 |q::qs,c,z=>by show op (f c q) (cM op u f q (qs++[z]))=op (op (f c q) (cM op u f q qs)) _;rw[iG h qs q z,h.as];rfl
noncomputable def kR(op:A->A->A)(u:A)(f:Pt->Pt->A):List Pt->A
 | []=>u
 |c::qs=>op (f ((c::qs).getLast (wo _ _)) c) (cM op u f c qs)
theorem nO(h:jH op u f){s:Sd}{W:List Sd}{d:Dr}(hd:s.d≠d)(ch:Chn s.st (s::W))(cl:ju s.st (s::W)=s.st):kR op u f (cor d (s::W))=cF op u f (s::W):=by
 have e3:cor d (s::W)=s.st::cor s.d W:=um hd;have e4:s.en=(s.st.1+(1:Nat)*s.d.dx,s.st.2+(1:Nat)*s.d.dy):=by
  show(s.st.1+s.d.dx,s.st.2+s.d.dy)=_;ext
  ·show s.st.1+s.d.dx=s.st.1+(1:Nat)*s.d.dx;omega
  ·show s.st.2+s.d.dy=s.st.2+(1:Nat)*s.d.dy;omega
 cases ch with
 |cons _ t=>have a:=gL h W s.st s.d 1 (by rw[<-e4];exact t);rw[<-e4]at a;have cl':ju s.en W=s.st:=cl;rw[cl',iG h]at a;rw[e3];show op _ (cM op u f s.st (cor s.d W))=op (f s.st s.en) (cF op u f W);rw[h.cm,a]
theorem fq(h:jH op u f):∀(V W:List Sd),cF op u f (V++W)=op (cF op u f V) (cF op u f W)
 | [],W=>(h.un _).symm
 |s::V,W=>by show op _ (cF op u f (V++W))=op (op _ _) _;rw[fq h V W,h.as]
theorem ix(h:jH op u f){V W:List Sd}(p:V.Perm W):cF op u f V=cF op u f W:=by
 induction p with
 |nil=>rfl
 |cons x _ ih=>show op _ _=op _ _;rw[ih]
 |swap x y l=>show op _ (op _ _)=op _ (op _ _);rw[<-h.as,<-h.as,h.cm (f y.st y.en)]
 |trans _ _ a b=>exact a.trans b
theorem iy(h:jH op u f):∀(Ws:List (List Sd)),cF op u f Ws.flatten=Ws.foldr (fun W a=>op (cF op u f W) a) u
 | []=>rfl
 |W::Ws=>by rw[List.flatten_cons,fq h,iy h Ws];rfl
end
theorem l5{G:Gr}{s:Sd}(h:brd G s=true):∀(n k:Nat),Chn (itr G s k).st ((List.range n).map fun j=>itr G s (k+j))
 | 0,_=>.nil
 |n+1,k=>by
  rw[List.range_succ_eq_map,vi,vy];refine .cons rfl ?_;have e:(itr G s (k+0)).en=(itr G s (k+1)).st:=by show _=(nxt G (itr G s k)).st;rw[dz (cg h k)];rfl
  rw[e];have:=l5 h n (k+1);refine cast (congrArg (Chn _) (List.map_congr_left fun j _=>?_)) this;show itr G s (k+1+j)=itr G s (k+(j+1));congr 1;omega
theorem lZ{G:Gr}{s:Sd}(h:brd G s=true):∀(n k:Nat),ju (itr G s k).st ((List.range n).map fun j=>itr G s (k+j))=(itr G s (k+n)).st
 | 0,_=>rfl
 |n+1,k=>by
  rw[List.range_succ_eq_map,vi,vy];have e:(itr G s (k+0)).en=(itr G s (k+1)).st:=by show _=(nxt G (itr G s k)).st;rw[dz (cg h k)];rfl
  show ju (itr G s (k+0)).en _=_;rw[e];have:=lZ h n (k+1);rw[show k+(n+1)=k+1+n by omega,<-this];congr 1;refine List.map_congr_left fun j _=>?_;show itr G s (k+(j+1))=itr G s (k+1+j);congr 1;omega
theorem lY{G:Gr}{s:Sd}(h:brd G s=true){n:Nat}(e:itr G s n=s):Chn s.st (wlk G s n)/\ju s.st (wlk G s n)=s.st:=by
 have a:=l5 h n 0;have b:=lZ h n 0;have c:((List.range n).map fun j=>itr G s (0+j))=wlk G s n:=by unfold wlk;exact List.map_congr_left fun j _=>by rw[Nat.zero_add]
 rw[c]at a b;rw[Nat.zero_add,e]at b;exact⟨a,b⟩
def ri(p q:Pt):Prop:=p.1<q.1\/(p.1=q.1/\p.2<q.2)
theorem kL{G:Gr}{s:Sd}(h:brd G s=true){n:Nat}(n0:0<n)(e:itr G s n=s)(least:∀t∈wlk G s n,¬ri t.st s.st):s.d≠(itr G s (n-1)).d:=fun z=>by
 have h1:itr G s n=nxt G (itr G s (n-1)):=by obtain⟨m,rfl⟩:∃m,n=m+1:=⟨n-1,by omega⟩;rfl
 have hb:=cg h (n-1);rw[e,dz hb]at h1;have ex:s.x=(itr G s (n-1)).x+(itr G s (n-1)).d.dx:=congrArg Sd.x h1;have ey:s.y=(itr G s (n-1)).y+(itr G s (n-1)).d.dy:=congrArg Sd.y h1;have m1:=least _ (uO.mpr ⟨n-1,vI.mpr (by omega),rfl⟩);rw[<-z]at ex ey;have step:n=1\/itr G s 1∈wlk G s n:=by
  by_cases y:n=1
  ·exact .inl y
  ·exact .inr (uO.mpr ⟨1,vI.mpr (by omega),rfl⟩)
 have e1:(itr G s 1).st=(s.x+s.d.dx,s.y+s.d.dy):=by show(nxt G s).st=_;rw[dz h];rfl
 rcases step with y|y
 ·subst y;have ex':s.x=s.x+s.d.dx:=ex;have ey':s.y=s.y+s.d.dy:=ey;cases hd:s.d<;>rw[hd]at ex' ey'<;>simp[Dr.dx,Dr.dy]at ex' ey'<;>omega
 ·have m2:=least _ y;rw[e1]at m2;have e2:(itr G s (n-1)).st=(s.x-s.d.dx,s.y-s.d.dy):=by
   ext
   ·show(itr G s (n-1)).x=s.x-s.d.dx;omega
   ·show(itr G s (n-1)).y=s.y-s.d.dy;omega
  rw[e2]at m1;cases hd:s.d<;>rw[hd]at m1 m2
  ·exact m1 (.inl (by show s.x-1<s.x;omega))
  ·exact m1 (.inr ⟨by show s.x-0=s.x;omega,by show s.y-1<s.y;omega⟩)
  ·exact m2 (.inl (by show s.x+ -1<s.x;omega))
  ·exact m2 (.inr ⟨by show s.x+0=s.x;omega,by show s.y+ -1<s.y;omega⟩)
theorem kO{s t:Sd}(h1:s.x=t.x)(h2:s.y=t.y)(h3:s.ex=t.ex)(h4:s.ey=t.ey):s=t:=by obtain⟨a,b,d⟩:=s;obtain⟨a',b',d'⟩:=t;have h1:a=a':=h1;have h2:b=b':=h2;subst h1 h2;have h3:a+d.dx=a+d'.dx:=h3;have h4:b+d.dy=b+d'.dy:=h4;cases d<;>cases d'<;>first|rfl|(simp[Dr.dx,Dr.dy]at h3 h4;done)|(simp[Dr.dx,Dr.dy]at h3 h4;omega)
end LO
namespace LO
open LM
noncomputable def grd(w h g:Nat):Gr:=fun x y=>decide (0<=x)&&decide (x<w)&&decide (0<=y)&&decide (y<h)&&g.testBit (y.toNat*w+x.toNat)
end LO
namespace LT
open PySem PySem.Spec PyProof.Rows L2
def Is2(h:Heap)(a:Addr)(p:Int×Int):Prop:=∃o n t u,h.get? a=some o/\o.cls=.type "tuple"/\o.data=.seq #[.int p.1 t,.int p.2 u] n
noncomputable def ltP(p q:Int×Int):Bool:=decide (p.1<q.1)||(decide (p.1=q.1)&&decide (p.2<q.2))
section
variable{prog:Program}{w:World}{A:Around}{E:Value->Shared->Prop}{s:Shared}
theorem Is2.ty{a:Addr}{p:Int×Int}(h:Is2 s.heap a p):s.TypeIs (.ref a) "tuple":=by obtain⟨o,n,t,u,h1,h2,_⟩:=h;exact⟨o,h1,h2⟩
theorem mn{x y:Int}{t u:Tok}{Q:Value->Shared->Prop}(q:Q (.bool (decide (x<y))) s):wpAny (model prog w) A (richCompare .Lt (.int x t) (.int y u)) Q E s:=
 wpAny_richCompare_same (typeIs_int s x t) (typeIs_int s y u) slot_int_lt (call_int_lt ⟨fun z=>(nomatch z),q⟩)
theorem mr{x y:Int}{t u:Tok}{Q:Bool->Shared->Prop}(q:Q (decide (x=y)) s):wpAny (model prog w) A (eqBool (.int x t) (.int y u)) Q E s:=by
 refine wpAny_eqBool_int ?_;have:(x==y)=decide (x=y):=by
  by_cases z:x=y
  ·rw[uD z];exact beq_iff_eq.mpr z
  ·rw[uQ z];exact beq_eq_false_iff_ne.mpr z
 rw[this];exact q
theorem ib{a b:Addr}{p r:Int×Int}{P:PySem.Fin->Shared->Prop}(hx:Is2 s.heap a p)(hy:Is2 s.heap b r)(h:P (.done (.ret (.bool (ltP p r)))) s):wpAny (model prog w) A (Builtin.«tuple.__lt__» ⟨[.ref a,.ref b],[]⟩) P E s:=by
 have hTb:=hy.ty;obtain⟨oa,na,t1,t2,hoa,_,hda⟩:=hx;obtain⟨ob,nb,u1,u2,hob,_,hdb⟩:=hy;show wpAny _ _ (isInstance (.ref b) (.type "tuple")>>= _) _ _ s;refine uf (wpAny_isInstance hTb isSubtype_tuple_tuple ?_);simp only[Bool.not_true,ve,if_false];refine uf (wpAny_tupleItemsOf hoa hda ?_);refine uf (wpAny_tupleItemsOf hob hdb ?_);refine uf ?_;show wpAny _ _ (forIn [(Value.int p.1 t1,Value.int r.1 u1),(Value.int p.2 t2,Value.int r.2 u2)] _ _) _ _ s;rw[List.forIn_cons];refine uf (uf (mr ?_));unfold ltP at h;by_cases e:p.1=r.1
 ·rw[uD e]at h ⊢;rw[uQ (show ¬p.1<r.1 by omega)]at h;simp only[Bool.not_true,ve,if_false];refine ug ?_;dsimp only;rw[List.forIn_cons];refine uf (uf (mr ?_));by_cases e2:p.2=r.2
  ·rw[uD e2];rw[uQ (show ¬p.2<r.2 by omega)]at h;simp only[Bool.not_true,ve,if_false];refine ug ?_;dsimp only;rw[List.forIn_nil];refine ug ?_;exact ug h
  ·rw[uQ e2];simp only[Bool.not_false,if_true];refine uf (wpAny_rule ?_);refine uf (mn ?_);exact uf (ug (ug (ug (ug h))))
 ·rw[uQ e]at h ⊢;simp only[Bool.not_false,if_true];refine uf (wpAny_rule ?_);refine uf (mn ?_);rw[Bool.false_and,Bool.or_false]at h;exact uf (ug (ug (ug (ug h))))
theorem lC{a b:Addr}{p r:Int×Int}{Q:Value->Shared->Prop}(hu:A.units<cLine)(hx:Is2 s.heap a p)(hy:Is2 s.heap b r)(q:Q (.bool (ltP p r)) s):wpAny (model prog w) A (richCompare .Lt (.ref a) (.ref b)) Q E s:=
 wpAny_richCompare_same_room hx.ty hy.ty F.slot_tuple_lt (wpAny_call_entry F.slot_tuple_lt hx.ty F.entry_tuple_lt (ib hx hy ⟨_,rfl,(fun z=>nomatch z),q⟩) (F.args_tuple_lt_2 _ _)) hu
end
open LO in
noncomputable def sdN(s:LO.Sd):Int:=((s.x*16+s.y)*16+s.ex)*16+s.ey
def fE(s:LO.Sd):Prop:=(0<=s.x/\s.x<16)/\(0<=s.y/\s.y<16)/\(0<=s.ex/\s.ex<16)/\(0<=s.ey/\s.ey<16)
noncomputable def ltS(s t:LO.Sd):Bool:=if(s.x,s.y)=(t.x,t.y)then ltP (s.ex,s.ey) (t.ex,t.ey)else ltP (s.x,s.y) (t.x,t.y)
theorem qc{s t:LO.Sd}(hs:fE s)(ht:fE t):ltS s t=decide (sdN s<sdN t):=by
 obtain⟨a1,a2,a3,a4⟩:=hs;obtain⟨b1,b2,b3,b4⟩:=ht;unfold ltS ltP sdN;generalize s.ex=c at*;generalize s.ey=d at*;generalize t.ex=c' at*;generalize t.ey=d' at*;generalize s.x=a at*;generalize s.y=b at*;generalize t.x=a' at*;generalize t.y=b' at*;rw[vu];by_cases z:(a,b)=(a',b')
 ·rw[um z];have z1:a=a':=congrArg Prod.fst z;have z2:b=b':=congrArg Prod.snd z;simp only[Bool.or_eq_true,vo,uH];constructor<;>intro h<;>omega
 ·rw[uo z];have z':¬(a=a'/\b=b'):=fun⟨y1,y2⟩=>z (by rw[y1,y2]);simp only[Bool.or_eq_true,vo,uH];constructor<;>intro h<;>omega
noncomputable abbrev AS:=List (Addr×LO.Sd)
noncomputable def codeAt(zs:AS)(a:Addr):Int:=((zs.find? fun z=>decide (z.1=a)).map fun z=>sdN z.2).getD 0
def qE(zs:AS):Prop:=∀z∈zs,∀y∈zs,z.1=y.1->z.2=y.2
theorem fY{zs:AS}(h:qE zs){z:Addr×LO.Sd}(hz:z∈zs):codeAt zs z.1=sdN z.2:=by
 unfold codeAt;cases e:zs.find? fun y=>decide (y.1=z.1)with
 |none=>exact absurd (List.find?_eq_none.mp e z hz) (by simp)
 |some y=>
  have e1:y.1=z.1:=by have:=List.find?_some e;simpa using this
  exact congrArg sdN (h y (List.mem_of_find?_eq_some e) z hz e1)
noncomputable abbrev oC(zs:AS):KN where
 kn:=fun p=>match p.1 with| .ref a=>codeAt zs a|_=>0
 isK:=fun p=>∃z∈zs,p=(.ref z.1,.ref z.1)
 kd:=tuples' false
def iw(h:Heap)(a:Addr)(s:LO.Sd):Prop:=∃o n p q,h.get? a=some o/\o.cls=.type "tuple"/\o.data=.seq #[.ref p,.ref q] n/\Is2 h p (s.x,s.y)/\Is2 h q (s.ex,s.ey)
section
variable{prog:Program}{w:World}{A:Around}{E:Value->Shared->Prop}{s:Shared}
theorem Is2.key{h:Heap}{a:Addr}{p:Int×Int}(k:Is2 h a p):IsTupleKey (bo prog w) h [.inl p.1,.inl p.2] a:=by obtain⟨o,n,t,u,h1,h2,h3⟩:=k;exact⟨o,_,n,h1,h2,h3,.cons (oH (k:=.inl p.1) ⟨t,rfl⟩) (.cons (oH (k:=.inl p.2) ⟨u,rfl⟩) .nil)⟩
theorem lJ{a b:Addr}{p r:Int×Int}{Q:Bool->Shared->Prop}(hu:A.units<cLine)(hx:Is2 s.heap a p)(hy:Is2 s.heap b r)(q:Q (decide (p=r)) s):wpAny (model prog w) A (eqBool (.ref a) (.ref b)) Q E s:=by
 refine wpAny_eqBool_tuple (knd:=bo prog w) hu hx.key hy.key ?_;have:decide (([.inl p.1,.inl p.2]:List Key)=[.inl r.1,.inl r.2])=decide (p=r):=by
  rw[vu,uH,uH];constructor
  ·intro h;obtain⟨h1,h2⟩:=uZ h;exact Prod.ext (Sum.inl.inj h1) (Sum.inl.inj (uZ h2).1)
  ·intro h;rw[h]
 rw[this];exact q
theorem qb{a b:Addr}{x y:LO.Sd}{Q:Bool->Shared->Prop}(hu:A.units<cLine)(ha:iw s.heap a x)(hb:iw s.heap b y)(q:Q (ltS x y) s):wpAny (model prog w) A (keyLt' (tuples' false) (.ref a) (.ref b)) Q E s:=by
 obtain⟨o,n,p1,p2,e1,e2,e3,e4,e5⟩:=ha;obtain⟨o',n',q1,q2,f1,f2,f3,f4,f5⟩:=hb;refine PySem.W.kat_lt e1 e3 f1 f3 ?_;show PySem.W.KatLex prog w A false _ Q [(.ref p1,.ref q1),(.ref p2,.ref q2)] 0 s;unfold ltS at q;have one:∀{c d:Addr}{u v:Int×Int},Is2 s.heap c u->Is2 s.heap d v->Q (ltP u v) s->wpAny (model prog w) A (oneLt' false (.ref c) (.ref d)) Q (fun _ _=>False) s:=fun h1 h2 h3=>PySem.W.kat_one _ _ (lC hu h1 h2 h3);refine PySem.W.kat_cons (lJ hu e4 f4 (PySem.W.kat_go (fun z=>?_) (fun z=>?_)))
 ·rw[um (uW z)]at q;refine PySem.W.kat_yes (PySem.W.kat_cons (lJ hu e5 f5 (PySem.W.kat_go (fun y'=>?_) (fun y'=>?_))))
  ·refine PySem.W.kat_yes (PySem.W.kat_nil ?_);have y2:=uW y';have:ltP (x.ex,x.ey) (y.ex,y.ey)=false:=by
    rw[y2];unfold ltP;rw[uQ (Int.lt_irrefl _),uQ (Int.lt_irrefl _),Bool.and_false];rfl
   rw[this]at q;exact q
  ·exact PySem.W.kat_no (one e5 f5 q)
 ·rw[uo (of_decide_eq_false z)]at q;exact PySem.W.kat_no (one e4 f4 q)
theorem m9{zs:AS}(hu:A.units<cLine)(hz:∀z∈zs,iw s.heap z.1 z.2)(ok:∀z∈zs,fE z.2)(one:qE zs): @ia prog w A E s (oC zs):=by letI:=oC zs;refine⟨fun {st x y Q} hk hx hy h=>?_⟩;obtain⟨z,mz,rfl⟩:=hx;obtain⟨y,my,rfl⟩:=hy;rw[lt'_eq];refine ui (wpS_get ?_);rw[hk];refine ui (wpS_lift (wpAny_attempt (qb hu (hz z mz) (hz y my) ⟨rfl,?_⟩)));refine uk ?_;have e1:KN.kn (.ref z.1,.ref z.1)=sdN z.2:=fY one mz;have e2:KN.kn (.ref y.1,.ref y.1)=sdN y.2:=fY one my;rw[e1,e2,<-qc (ok z mz) (ok y my)]at h;exact h
noncomputable def aG(zs:AS):List Value:=zs.map fun z=>.ref z.1
theorem iw.keep{h h':Heap}{a:Addr}{x:LO.Sd}(k:∀b o,h.get? b=some o->o.cls=.type "tuple"->h'.get? b=some o)(i:iw h a x):iw h' a x:=by have k2:∀{b:Addr}{p:Int×Int},Is2 h b p->Is2 h' b p:=fun⟨o,n,t,u,h1,h2,h3⟩=>⟨o,n,t,u,k _ _ h1 h2,h2,h3⟩;obtain⟨o,n,p,q,h1,h2,h3,h4,h5⟩:=i;exact⟨o,n,p,q,k _ _ h1 h2,h2,h3,k2 h4,k2 h5⟩
theorem ng{zs:AS}(hz:∀z∈zs,iw s.heap z.1 z.2)(h2:zs≠[]){Q:SortKind->Shared->Prop}(q:Q (tuples' false) s):wpAny (model prog w) A (keyKind' (aG zs).toArray) Q E s:=by
 have key:∀v∈aG zs,∃x,s.TypeIs (.ref x) "tuple"/\∀{R:Option Value->Shared->Prop},R (some (.ref x)) s->wpAny (model prog w) A (firstOfTuple' v) R E s:=fun v hv=>by obtain⟨z,mz,rfl⟩:=uO.mp hv;obtain⟨o,n,p1,p2,e1,e2,e3,e4,e5⟩:=hz z mz;refine⟨p1,e4.ty,fun {R} r=>?_⟩;rw[firstT];refine uf (wpAny_typeOf (T:="tuple") ⟨o,e1,e2⟩ ?_);rw[uo (by simp)];exact uf (listItems_at e1 e3 (ug r))
 have gex:∀v:Value,∃u:Value,v∈aG zs->(∃x,u=.ref x/\s.TypeIs (.ref x) "tuple")/\∀{R:Option Value->Shared->Prop},R (some u) s->wpAny (model prog w) A (firstOfTuple' v) R E s:=fun v=>by
  by_cases hv:v∈aG zs
  ·obtain⟨x,t,h⟩:=key v hv;exact⟨.ref x,fun _=>⟨⟨x,rfl,t⟩,h⟩⟩
  ·exact⟨.none,fun z=>absurd z hv⟩
 let g:Value->Value:=fun v=>(gex v).choose;have hg:∀v∈aG zs,(∃x,g v=.ref x/\s.TypeIs (.ref x) "tuple")/\∀{R:Option Value->Shared->Prop},R (some (g v)) s->wpAny (model prog w) A (firstOfTuple' v) R E s:=fun v hv=>(gex v).choose_spec hv;rw[keyKind'_eq,List.mapM_toArray,<-bind_pure_comp];refine uf (uf (fj (g:=fun v=>some (g v)) (fun v hv {R} r=>(hg v hv).2 r) (ug ?_)));have c1:((aG zs).map fun v=>some (g v)).toArray.all (·.isSome)=true:=by simp
 rw[um c1];have e1:((aG zs).map fun v=>some (g v)).toArray.filterMap id=((aG zs).map g).toArray:=by simp[List.filterMap_toArray,List.filterMap_map]
 refine uf (wpAny_rule ?_);rw[e1,oneTypeOnly'_eq,List.mapM_toArray,<-bind_pure_comp];refine uf (uf (uf (fj (f:=typeOf) (g:=fun _=>Value.type "tuple") (fun v hv {R} r=>?_) (ug ?_))))
 ·obtain⟨u,hu,rfl⟩:=uO.mp hv;obtain⟨x,e,t⟩:=(hg u hu).1;rw[e];exact wpAny_typeOf t r
 ·have hl:(((aG zs).map g).map fun _=>Value.type "tuple").toArray[0]?=some (Value.type "tuple"):=by
   cases zs with
   |nil=>exact absurd rfl h2
   |cons z zs=>simp[aG]
  rw[hl];have ha:(((aG zs).map g).map fun _=>Value.type "tuple").toArray.all (·==Value.type "tuple")=true:=by simp only[List.all_toArray,List.all_map,List.all_eq_true];intro _ _;rfl
  refine ug ?_;rw[ha];exact ug q
theorem mO{a:Addr}{zs:AS}{n:Nat}{P:PySem.Fin->Shared->Prop}(ho:s.heap.get? a=some (seqObj "list" (aG zs).toArray n))(hu:A.units<cLine)(hz:∀z∈zs,iw s.heap z.1 z.2)(ok:∀z∈zs,fE z.2)(one:qE zs)(h64:zs.length<1000)
  (h:∀ys:AS,ys.Perm zs->(ys.map fun z=>sdN z.2).Pairwise (·<=·)->P (.done (.ret .none)) {s with heap:=sortedHeap s.heap a (aG zs) (aG ys).toArray}):
  wpAny (model prog w) A (Builtin.«list.sort» ⟨[.ref a],[]⟩) P E s:=by
 rw[list_sort_plain];have ha:a<s.heap.objs.size:=uw ho;have lz:(aG zs).length=zs.length:=uj ..;refine uf (listItems_at ho rfl ?_);refine uf (listUpdate_at ho rfl ?_ (by rw[uC,lz,vQ];omega) (vg _));obtain⟨e1,ho1⟩:∃e1,(s.heap.update a (Obj.mapSeq fun _=> #[])).get? a=some (seqObj "list" #[] e1):=⟨_,get?_update_seq ho (fun _=> #[])⟩;refine uf (seqEpoch_at ho1 rfl ?_);refine uf (wpAny_newTuple ?_ (by show(aG zs).length<=_;rw[lz,vQ];omega));refine uf (wpAny_newList ?_ (vg _));refine wpAny_holding ?_;have ho6:(((s.heap.update a (Obj.mapSeq fun _=> #[])).push (seqObj "tuple" (aG zs).toArray 0)).push (seqObj "list" #[] 0)).get? a=some (seqObj "list" #[] e1):=uh _ (uh _ ho1);have hz6:∀z∈zs,iw (((s.heap.update a (Obj.mapSeq fun _=> #[])).push (seqObj "tuple" (aG zs).toArray 0)).push (seqObj "list" #[] 0)) z.1 z.2:=fun z mz=>by
  refine(hz z mz).keep fun b o f1 f2=>?_;have na:b≠a:=fun w=>by rw[w,ho]at f1;cases f1;have f2':Value.type "list"=Value.type "tuple":=f2;exact absurd f2' (by decide)
  exact uh _ (uh _ (((Heap.SameBut.update s.heap a _).2 b na).trans f1))
 show wpAny (model prog w) A _ P E {s with heap:=((s.heap.update a (Obj.mapSeq fun _=> #[])).push (seqObj "tuple" (aG zs).toArray 0)).push (seqObj "list" #[] 0)};dsimp only;have pz:(pairsOf (aG zs)).toList=zs.map fun z=>((.ref z.1,.ref z.1):Keyed):=by rw[pairsOf_toList];unfold aG;rw[List.zip_map']
 have outL:∀{ar:Array Keyed}{ys:AS},ar.toList=ys.map (fun z=>((.ref z.1,.ref z.1):Keyed))->ar.map (·.2)=(aG ys).toArray:=fun {ar ys} e=>by apply Array.ext';rw[Array.toList_map,e,vy];rfl
 by_cases h2:(aG zs).toArray.size<2
 ·rw[um h2,um h2];refine uf (ug ?_);rw[StateT.run_pure];refine uf (ug ?_);dsimp only;refine uf (seqEpoch_at ho6 rfl ?_);have eo:=outL (ar:=pairsOf (aG zs)) (ys:=zs) pz;refine uf (listUpdate_at ho6 rfl ?_ (vg _) (by show((pairsOf (aG zs)).map (·.2)).size<=_;rw[eo,uC,lz,vQ];omega));simp only[bne_self_eq_false,ve,if_false];refine ug ?_;show P _ {s with heap:=(((s.heap.update a (Obj.mapSeq fun _=> #[])).push (seqObj "tuple" (aG zs).toArray 0)).push (seqObj "list" #[] 0)).update a (Obj.mapSeq fun _=>(pairsOf (aG zs)).map (·.2))};rw[eo];refine h zs (.refl _) ?_;rw[uC,lz]at h2
  match zs,h2 with
  | [],_=>exact .nil
  | [z],_=>exact vZ _ _
 ·rw[uo h2,uo h2];rw[uC,lz]at h2;refine uf (ng hz6 (fun w=>h2 (by rw[w];decide)) ?_);letI:=oC zs;haveI:ia prog w A E {s with heap:=((s.heap.update a (Obj.mapSeq fun _=> #[])).push (seqObj "tuple" (aG zs).toArray 0)).push (seqObj "list" #[] 0)}:=m9 hu hz6 ok one;refine uf (vD (gb (a₀:=pairsOf (aG zs)) (st:=SortSt.mk' (tuples' false) ((aG zs).toArray.zip (aG zs).toArray) #[] 7 none) (Q:=fun _ st'=>(arrOf st').Perm (pairsOf (aG zs))/\failedOf st'=none/\SortedTo (arrOf st') (pairsOf (aG zs)).size) (fun p hp=>?_) (Array.Perm.refl _) rfl rfl rfl (by rw[pairsOf_size,lz];omega) fun st' q1 q2 q3=>⟨q1,q2,q3⟩) ?_ fun _ _ e=>e)
  ·rw[pz]at hp;obtain⟨z,mz,rfl⟩:=uO.mp hp;exact⟨z,mz,rfl⟩
  rintro⟨⟨⟩,st'⟩ s' ⟨rfl,hp,hf,hs⟩;dsimp only;obtain⟨ys,py,ey⟩:=fJ (f:=fun z:Addr×LO.Sd=>((.ref z.1,.ref z.1):Keyed)) (zs:=zs) (l:=(arrOf st').toList) (by rw[<-pz];exact wj.mp hp);have eo:=outL ey;have ly:(aG ys).length=zs.length:=by rw[aG,uj];exact py.length_eq
  refine uf (seqEpoch_at ho6 rfl ?_);refine uf (listUpdate_at ho6 rfl ?_ (vg _) (by show((arrOf st').map (·.2)).size<=_;rw[eo,uC,ly,vQ];omega));rw[hf];simp only[bne_self_eq_false,ve,if_false];refine ug ?_;rw[eo];refine h ys py ?_;rw[vA];intro i j hi hj hij;rw[uj]at hi hj;have sz:(pairsOf (aG zs)).size=ys.length:=by rw[pairsOf_size,lz];exact py.length_eq.symm
  have le:=hs i j (Nat.le_of_lt hij) (by rw[sz];exact hj);have at_:∀k(hk:k<ys.length),K (arrOf st') k=sdN (ys[k]'hk).2:=fun k hk=>by unfold K;rw[<-uE,ey,uU,uq hk];exact fY one (py.mem_iff.mp (List.getElem_mem hk))
  rw[at_ i hi,at_ j hj]at le;rw[List.getElem_map,List.getElem_map];exact le
end
section
variable{X:Cx}
def cC(K:Frag)(H:Hp)(b:Addr)(s:LO.Sd):Prop:=∃p q,SqT K H b [.ref p,.ref q]/\SqT K H p [.int s.x,.int s.y]/\SqT K H q [.int s.ex,.int s.ey]
theorem fg(hu:X.A.units+64<cLine):ef X (.builtin "sorted") (fun xs H Q=>∃(p:Addr)(zs:AS),xs=[.ref p]/\SqL X.K H p (zs.map fun z=>V.ref z.1)/\(∀z∈zs,cC X.K H z.1 z.2)/\(∀z∈zs,fE z.2)/\zs.length<1000/\
  ∀(l:Addr)(ys:AS),H l=none->ys.Perm zs->(ys.map fun z=>sdN z.2).Pairwise (·<=·)->Q (.ref l) (upd H l (.lst (ys.map fun z=>V.ref z.1)))):=by
 intro pins s σ H xs us Q I r h;obtain⟨p,zs,rfl,hx,hz,ok,h64,q⟩:=h;obtain⟨u,rfl,ru⟩:=vals1 r;cases ru;obtain⟨vs,rv,pl,hzl⟩:=I.list hx;have refs:∀{ys:AS}{us:List Value},Vals (ys.map fun z=>V.ref z.1) us->us=aG ys:=by
  intro ys
  induction ys with
  |nil=>intro us r;cases r;rfl
  |cons z ys ih=>
   intro us r;rw[vi]at r;cases r with
   |cons a b=>cases a;rw[ih b];rfl
 have valsR:∀ys:AS,Vals (ys.map fun z=>V.ref z.1) (aG ys):=by
  intro ys
  induction ys with
  |nil=>exact .nil
  |cons z ys ih=>exact .cons rfl ih
 obtain rfl:=refs rv;have two:∀{b:Addr}{x y:Int},SqT X.K H b [.int x,.int y]->Is2 s.heap b (x,y):=fun {b x y} hb=>by obtain⟨its,rv',⟨o,e1,e2,n,e3⟩,_⟩:=I.tuple hb;obtain⟨v1,v2,rfl,⟨t,rfl⟩,⟨t',rfl⟩⟩:=vals2 rv';exact⟨o,n,t,t',e1,e2,e3⟩
 have tn:∀z∈zs,iw s.heap z.1 z.2:=fun z mz=>by obtain⟨p1,p2,h1,h2,h3⟩:=hz z mz;obtain⟨its,rv',⟨o,e1,e2,n,e3⟩,_⟩:=I.tuple h1;obtain⟨v1,v2,rfl,r1,r2⟩:=vals2 rv';cases r1;cases r2;exact⟨o,n,p1,p2,e1,e2,e3,two h2,two h3⟩
 have one:qE zs:=fun z mz y my e=>by
  obtain⟨p1,p2,h1,h2,h3⟩:=hz z mz;obtain⟨q1,q2,k1,k2,k3⟩:=hz y my;rw[e]at h1;have a:=I.tuple_inj h1 k1;obtain⟨a1,a2⟩:=uZ a;have a2':=(uZ a2).1;cases a1;cases a2';have b:=I.tuple_inj h2 k2;have c:=I.tuple_inj h3 k3;refine LO.kO ?_ ?_ ?_ ?_
  ·exact V.int.inj (uZ b).1
  ·exact V.int.inj (uZ (uZ b).2).1
  ·exact V.int.inj (uZ c).1
  ·exact V.int.inj (uZ (uZ c).2).1
 have lz:(aG zs).length=zs.length:=uj ..;refine Calls.call_function_entry kind_sorted plain_sorted entry_sorted (args_sorted1 _) ?_;unfold Builtin.«sorted»;refine uf (m:=checkCount "sorted" 1 1 _) (ug ?_);refine uf (collect_list pl.isList ?_ (by rw[lz,vQ];omega));refine uf (wpAny_newList ?_ (by show(aG zs).length<=_;rw[lz,vQ];omega));have hsz:((s.heap.push (seqObj "list" #[] 0)).update s.heap.objs.size (Obj.mapSeq (·++(aG zs).toArray))).objs.size=s.heap.objs.size+1:=by rw[Heap.size_update,size_push']
 have hoL:(((s.heap.push (seqObj "list" #[] 0)).update s.heap.objs.size (Obj.mapSeq (·++(aG zs).toArray))).push (seqObj "list" (aG zs).toArray 0)).get? (s.heap.objs.size+1)=some (seqObj "list" (aG zs).toArray 0):=by rw[<-hsz];exact uK _ rfl
 have kp:∀b o,s.heap.get? b=some o->(((s.heap.push (seqObj "list" #[] 0)).update s.heap.objs.size (Obj.mapSeq (·++(aG zs).toArray))).push (seqObj "list" (aG zs).toArray 0)).get? b=some o:=fun b o e=>uh _ (((Heap.SameBut.update _ s.heap.objs.size _).2 b (uX (uw e))).trans (uh _ e))
 show wpAny _ _ _ _ _ {s with heap:=((s.heap.push (seqObj "list" #[] 0)).update s.heap.objs.size (Obj.mapSeq (·++(aG zs).toArray))).push (seqObj "list" (aG zs).toArray 0)};rw[hsz];refine uf (wpAny_holding (wpAny_call_entry slot_list_sort ⟨_,hoL,rfl⟩ entry_list_sort (mO hoL (by simp;omega) (fun z mz=>(tn z mz).keep fun b o e _=>kp _ _ e) ok one h64 fun ys py so=>⟨_,rfl,?_⟩) (args_list_sort _)));refine ug ⟨_,rfl,?_⟩;obtain⟨e,he⟩:=sortedAll_at s.heap (aG zs) (aG ys).toArray;have fr:H (s.heap.objs.size+1)=none:=I.hok.fresh (Nat.le_succ _);have ly:=py.length_eq;exact⟨.ref _,_,I.track (t':=s.toks) (n:=e) (its:=aG ys) (I.fpOk (Nat.le_succ _) fr) (fun b o _ z=>sortedAll_old z) (valsR ys) (by rw[uj,vQ];omega) he,rfl,q _ ys fr py so⟩
end
def jE(h:Heap)(a:Addr)(p:Int×Int):Prop:=∃its n b,h.get? a=some {cls:=.type "list",data:=.seq its n}/\its[0]?=some (.ref b)/\Is2 h b p
section
theorem ox(l b:Addr)(items items2:Array Value)(n n2:Nat)(c d:Addr)(p q:Int×Int)(ne:p≠q)(h1:items[0]?=some (.ref c))(h2:items2[0]?=some (.ref d)):
  Meets (Builtin.«list.__eq__.loop» ⟨[.ref l,.ref b,rawInt ((0:Nat):Int),rawInt 0],[]⟩)
   (fun A R s=>A.in1.units<cLine/\s.heap.get? l=some {cls:=.type "list",data:=.seq items n}/\s.heap.get? b=some {cls:=.type "list",data:=.seq items2 n2}/\Is2 s.heap c p/\Is2 s.heap d q/\R (.ok (.ret (.bool (ltP p q)))) s):=by
 intro prog w A R s h;obtain⟨hp,g,dd,tk,os⟩:=s;obtain⟨hu,hl,hb,hc,hd,h⟩:=h
 wp_walk using wa hl,wa hb
 have hi1:items[((0:Nat):Int).toNat]?=some (.ref c):=h1;have hi2:items2[((0:Nat):Int).toNat]?=some (.ref d):=h2;rw[hi1,hi2];refine uf (lJ hu hc hd ?_);rw[uQ ne]
 wp_walk using wa hl,wa hb
 rw[hi1,hi2];refine uf (lC hu hc hd ?_)
 wp_walk
 exact h
theorem ov(l:Addr)(items:Array Value)(n:Nat)(self:∀v:Value,(v==v)=true)(k:Nat):
  ∀i:Nat,items.size-i=k->Meets (Builtin.«list.__eq__.loop» ⟨[.ref l,.ref l,rawInt i,rawInt 0],[]⟩)
   (fun _ R s=>s.heap.get? l=some {cls:=.type "list",data:=.seq items n}/\R (.ok (.ret (.bool false))) s):=by
 induction k with
 |zero=>
  intro i hk prog w A R s h;obtain⟨hp,g,d,tk,os⟩:=s;obtain⟨hl,h⟩:=h
  wp_walk using wa hl
  have hi1:items[((i:Nat):Int).toNat]?=none:=by simp;omega
  rw[hi1]
  wp_walk using wa hl
  show R (.ok (.ret (.bool (decide (items.size<items.size))))) _;rw[uQ (vR _)];exact h
 |succ k ih=>
  intro i hk prog w A R s h;obtain⟨hp,g,d,tk,os⟩:=s;obtain⟨hl,h⟩:=h
  wp_walk using wa hl
  have hlt:i<items.size:=by omega
  have hi1:items[((i:Nat):Int).toNat]?=some items[i]:=by simp[hlt]
  have hc:((i:Int)+1)=((i+1:Nat):Int):=by push_cast;rfl
  rw[hi1];refine uf (kz (self _) ?_)
  wp_walk
  rw[hc]
  exact⟨plainId_quiet vY _,codeAny_builtin MeetsSeq3.entry_eq_loop (by
   rw[vM vY _]
   exact ih (i+1) (by omega) prog w A R _ ⟨hl,h⟩)⟩
theorem qf(l b:Addr)(items items2:Array Value)(n n2:Nat)(c d:Addr)(p q:Int×Int)(h1:items[0]?=some (.ref c))(h2:items2[0]?=some (.ref d))(hs:p=q->l=b)(self:∀v:Value,(v==v)=true):
  Meets (Builtin.«list.__lt__» ⟨[.ref l,.ref b],[]⟩)
   (fun A R s=>A.in1.units<cLine/\s.heap.get? l=some {cls:=.type "list",data:=.seq items n}/\s.heap.get? b=some {cls:=.type "list",data:=.seq items2 n2}/\Is2 s.heap c p/\Is2 s.heap d q/\R (.ok (.ret (.bool (ltP p q)))) s):=by
 intro prog w A R s h;obtain⟨hp,g,dd,tk,os⟩:=s;obtain⟨hu,hl,hb,hc,hd,h⟩:=h;have f3:=AutoSeq1.sub_list_list
 wp_walk using wa hl,wa hb
 by_cases e:p=q
 ·obtain rfl:=hs e;rw[hl]at hb;cases hb;have e2:ltP p q=false:=by
   rw[e];unfold ltP;rw[uQ (Int.lt_irrefl _),uQ (Int.lt_irrefl _),Bool.and_false];rfl
  rw[e2]at h
  exact⟨plainId_quiet vY _,codeAny_builtin MeetsSeq3.entry_eq_loop (by
   rw[vM vY _]
   exact ov l items n self _ 0 rfl prog w A R _ ⟨hl,h⟩)⟩
 ·exact⟨plainId_quiet vY _,codeAny_builtin MeetsSeq3.entry_eq_loop (by
   rw[vM vY _]
   exact ox l b items items2 n n2 c d p q e h1 h2 prog w A R _ ⟨hu,hl,hb,hc,hd,h⟩)⟩
end
section
variable{prog:Program}{w:World}{A:Around}{E:Value->Shared->Prop}{s:Shared}
theorem jE.ty{a:Addr}{p:Int×Int}(h:jE s.heap a p):s.TypeIs (.ref a) "list":=by obtain⟨its,n,b,h1,_⟩:=h;exact⟨_,h1,rfl⟩
theorem sY{a b:Addr}{p r:Int×Int}{Q:Bool->Shared->Prop}(hu:A.units+8<cLine)(ha:jE s.heap a p)(hb:jE s.heap b r)(hs:p=r->a=b)(self:∀v:Value,(v==v)=true)(q:Q (ltP p r) s):wpAny (model prog w) A (keyLt' oneType' (.ref a) (.ref b)) Q E s:=by have ta:=ha.ty;obtain⟨its,n,c,e1,e2,e3⟩:=ha;obtain⟨its',n',d,f1,f2,f3⟩:=hb;rw[keyLt'_oneType,oneLt'_eq];simp only[if_true];refine uf (wpAny_cRoomFor_or (.inr (by omega)) ?_);refine uf (wpAny_callSpecialIfBound?_slot ta F.slot_list_lt (call_meets F.slot_list_lt ta F.entry_list_lt (F.args_list_lt_2 _ _) (qf a b its its' n n' c d p r e2 f2 hs self) ⟨by simp;omega,e1,f1,e3,f3,?_⟩));exact vP q
end
noncomputable abbrev AP:=List (Addr×(Int×Int))
noncomputable def ptN(p:Int×Int):Int:=p.1*16+p.2
def ij(p:Int×Int):Prop:=(0<=p.1/\p.1<16)/\(0<=p.2/\p.2<16)
theorem qd{p q:Int×Int}(hp:ij p)(hq:ij q):ltP p q=decide (ptN p<ptN q):=by obtain⟨a,b⟩:=p;obtain⟨a',b'⟩:=q;obtain⟨h1,h2⟩:=hp;obtain⟨k1,k2⟩:=hq;have h1:0<=a/\a<16:=h1;have h2:0<=b/\b<16:=h2;have k1:0<=a'/\a'<16:=k1;have k2:0<=b'/\b'<16:=k2;show(decide (a<a')||(decide (a=a')&&decide (b<b')))=decide (a*16+b<a'*16+b');rw[vu];simp only[Bool.or_eq_true,vo,uH];constructor<;>intro h<;>omega
noncomputable def rq(zs:AP)(a:Addr):Int:=((zs.find? fun z=>decide (z.1=a)).map fun z=>ptN z.2).getD 0
def qF(zs:AP):Prop:=∀z∈zs,∀y∈zs,z.1=y.1->z.2=y.2
theorem jc{zs:AP}(h:qF zs){z:Addr×(Int×Int)}(hz:z∈zs):rq zs z.1=ptN z.2:=by
 unfold rq;cases e:zs.find? fun y=>decide (y.1=z.1)with
 |none=>exact absurd (List.find?_eq_none.mp e z hz) (by simp)
 |some y=>
  have e1:y.1=z.1:=by have:=List.find?_some e;simpa using this
  exact congrArg ptN (h y (List.mem_of_find?_eq_some e) z hz e1)
noncomputable abbrev oD(zs:AP):KN where
 kn:=fun p=>match p.1 with| .ref a=>rq zs a|_=>0
 isK:=fun p=>∃z∈zs,p=(.ref z.1,.ref z.1)
 kd:=oneType'
theorem oo{zs:AP}(nd:(zs.map (·.2)).Nodup):∀z∈zs,∀y∈zs,z.2=y.2->z.1=y.1:=by
 induction zs with
 |nil=>intro z h;cases h
 |cons r l ih=>
  intro z h1 y h2 e;rw[vi,vh]at nd;rcases uY.mp h1 with a|a
  ·rcases uY.mp h2 with b|b
   ·rw[a,b]
   ·exact absurd (vC (f:=(·.2)) b) (by rw[<-e,a];exact nd.1)
  ·rcases uY.mp h2 with b|b
   ·exact absurd (vC (f:=(·.2)) a) (by rw[e,b];exact nd.1)
   ·exact ih nd.2 z a y b e
section
variable{prog:Program}{w:World}{A:Around}{E:Value->Shared->Prop}{s:Shared}
theorem qe{zs:AP}(hu:A.units+8<cLine)(hz:∀z∈zs,jE s.heap z.1 z.2)(ok:∀z∈zs,ij z.2)(nd:(zs.map (·.2)).Nodup)(one:qF zs): @ia prog w A E s (oD zs):=by letI:=oD zs;refine⟨fun {st x y Q} hk hx hy h=>?_⟩;obtain⟨z,mz,rfl⟩:=hx;obtain⟨y,my,rfl⟩:=hy;rw[lt'_eq];refine ui (wpS_get ?_);rw[hk];refine ui (wpS_lift (wpAny_attempt (sY hu (hz z mz) (hz y my) (fun e=>oo nd z mz y my e) (fun v=>by simp) ⟨rfl,?_⟩)));refine uk ?_;have e1:KN.kn (.ref z.1,.ref z.1)=ptN z.2:=jc one mz;have e2:KN.kn (.ref y.1,.ref y.1)=ptN y.2:=jc one my;rw[e1,e2,<-qd (ok z mz) (ok y my)]at h;exact h
noncomputable def aA(zs:AP):List Value:=zs.map fun z=>.ref z.1
theorem ql{zs:AP}(hz:∀z∈zs,jE s.heap z.1 z.2)(h2:zs≠[]){Q:SortKind->Shared->Prop}(q:Q oneType' s):wpAny (model prog w) A (keyKind' (aA zs).toArray) Q E s:=by
 have ty:∀v∈aA zs,s.TypeIs v "list":=fun v hv=>by obtain⟨z,mz,rfl⟩:=uO.mp hv;exact(hz z mz).ty
 rw[keyKind'_eq,List.mapM_toArray,<-bind_pure_comp];refine uf (uf (fj (g:=fun _=>(none:Option Value)) (fun v hv {R} r=>?_) (ug ?_)))
 ·rw[firstT];refine uf (wpAny_typeOf (T:="list") (ty v hv) ?_);rw[um (by decide)];exact ug r
 have c1:¬((aA zs).map fun _=>(none:Option Value)).toArray.all (·.isSome)=true:=by
  cases zs with
  |nil=>exact absurd rfl h2
  |cons z zs=>simp[aA]
 rw[uo c1];have c2:¬((((aA zs).map fun _=>(none:Option Value)).toArray[0]?.bind id).isSome=true):=by
  cases zs with
  |nil=>exact absurd rfl h2
  |cons z zs=>simp[aA]
 rw[uo c2];rw[oneTypeOnly'_eq,List.mapM_toArray,<-bind_pure_comp];refine uf (uf (uf (fj (f:=typeOf) (g:=fun _=>Value.type "list") (fun v hv {R} r=>wpAny_typeOf (ty v hv) r) (ug ?_))));have hl:((aA zs).map fun _=>Value.type "list").toArray[0]?=some (Value.type "list"):=by
  cases zs with
  |nil=>exact absurd rfl h2
  |cons z zs=>simp[aA]
 rw[hl];have ha:((aA zs).map fun _=>Value.type "list").toArray.all (·==Value.type "list")=true:=by simp only[List.all_toArray,List.all_map,List.all_eq_true];intro _ _;rfl
 refine ug ?_;rw[ha];exact ug q
theorem pE{a:Addr}{zs:AP}{n:Nat}{P:PySem.Fin->Shared->Prop}(ho:s.heap.get? a=some (seqObj "list" (aA zs).toArray n))(hu:A.units+8<cLine)(hz:∀z∈zs,jE s.heap z.1 z.2)(nea:∀z∈zs,z.1≠a)(ok:∀z∈zs,ij z.2)(nd:(zs.map (·.2)).Nodup)(one:qF zs)(h64:zs.length<1000)
  (h:∀ys:AP,ys.Perm zs->(ys.map fun z=>ptN z.2).Pairwise (·<=·)->P (.done (.ret .none)) {s with heap:=sortedHeap s.heap a (aA zs) (aA ys).toArray}):
  wpAny (model prog w) A (Builtin.«list.sort» ⟨[.ref a],[]⟩) P E s:=by
 rw[list_sort_plain];have ha:a<s.heap.objs.size:=uw ho;have lz:(aA zs).length=zs.length:=uj ..;refine uf (listItems_at ho rfl ?_);refine uf (listUpdate_at ho rfl ?_ (by rw[uC,lz,vQ];omega) (vg _));obtain⟨e1,ho1⟩:∃e1,(s.heap.update a (Obj.mapSeq fun _=> #[])).get? a=some (seqObj "list" #[] e1):=⟨_,get?_update_seq ho (fun _=> #[])⟩;refine uf (seqEpoch_at ho1 rfl ?_);refine uf (wpAny_newTuple ?_ (by show(aA zs).length<=_;rw[lz,vQ];omega));refine uf (wpAny_newList ?_ (vg _));refine wpAny_holding ?_;have ho6:(((s.heap.update a (Obj.mapSeq fun _=> #[])).push (seqObj "tuple" (aA zs).toArray 0)).push (seqObj "list" #[] 0)).get? a=some (seqObj "list" #[] e1):=uh _ (uh _ ho1);have hz6:∀z∈zs,jE (((s.heap.update a (Obj.mapSeq fun _=> #[])).push (seqObj "tuple" (aA zs).toArray 0)).push (seqObj "list" #[] 0)) z.1 z.2:=fun z mz=>by have kp:∀b o,b≠a->s.heap.get? b=some o->(((s.heap.update a (Obj.mapSeq fun _=> #[])).push (seqObj "tuple" (aA zs).toArray 0)).push (seqObj "list" #[] 0)).get? b=some o:=fun b o na f1=>uh _ (uh _ (((Heap.SameBut.update s.heap a _).2 b na).trans f1));obtain⟨its,n',b,f1,f2,o,n2,t,u,f3,f4,f5⟩:=hz z mz;refine⟨its,n',b,kp _ _ (nea z mz) f1,f2,o,n2,t,u,kp _ _ (fun w=>?_) f3,f4,f5⟩;rw[w,ho]at f3;cases f3;have f4':Value.type "list"=Value.type "tuple":=f4;exact absurd f4' (by decide)
 show wpAny (model prog w) A _ P E {s with heap:=((s.heap.update a (Obj.mapSeq fun _=> #[])).push (seqObj "tuple" (aA zs).toArray 0)).push (seqObj "list" #[] 0)};dsimp only;have pz:(pairsOf (aA zs)).toList=zs.map fun z=>((.ref z.1,.ref z.1):Keyed):=by rw[pairsOf_toList];unfold aA;rw[List.zip_map']
 have outL:∀{ar:Array Keyed}{ys:AP},ar.toList=ys.map (fun z=>((.ref z.1,.ref z.1):Keyed))->ar.map (·.2)=(aA ys).toArray:=fun {ar ys} e=>by apply Array.ext';rw[Array.toList_map,e,vy];rfl
 by_cases h2:(aA zs).toArray.size<2
 ·rw[um h2,um h2];refine uf (ug ?_);rw[StateT.run_pure];refine uf (ug ?_);dsimp only;refine uf (seqEpoch_at ho6 rfl ?_);have eo:=outL (ar:=pairsOf (aA zs)) (ys:=zs) pz;refine uf (listUpdate_at ho6 rfl ?_ (vg _) (by show((pairsOf (aA zs)).map (·.2)).size<=_;rw[eo,uC,lz,vQ];omega));simp only[bne_self_eq_false,ve,if_false];refine ug ?_;show P _ {s with heap:=(((s.heap.update a (Obj.mapSeq fun _=> #[])).push (seqObj "tuple" (aA zs).toArray 0)).push (seqObj "list" #[] 0)).update a (Obj.mapSeq fun _=>(pairsOf (aA zs)).map (·.2))};rw[eo];refine h zs (.refl _) ?_;rw[uC,lz]at h2
  match zs,h2 with
  | [],_=>exact .nil
  | [z],_=>exact vZ _ _
 ·rw[uo h2,uo h2];rw[uC,lz]at h2;refine uf (ql hz6 (fun w=>h2 (by rw[w];decide)) ?_);letI:=oD zs;haveI:ia prog w A E {s with heap:=((s.heap.update a (Obj.mapSeq fun _=> #[])).push (seqObj "tuple" (aA zs).toArray 0)).push (seqObj "list" #[] 0)}:=qe hu hz6 ok nd one;refine uf (vD (gb (a₀:=pairsOf (aA zs)) (st:=SortSt.mk' (oneType') ((aA zs).toArray.zip (aA zs).toArray) #[] 7 none) (Q:=fun _ st'=>(arrOf st').Perm (pairsOf (aA zs))/\failedOf st'=none/\SortedTo (arrOf st') (pairsOf (aA zs)).size) (fun p hp=>?_) (Array.Perm.refl _) rfl rfl rfl (by rw[pairsOf_size,lz];omega) fun st' q1 q2 q3=>⟨q1,q2,q3⟩) ?_ fun _ _ e=>e)
  ·rw[pz]at hp;obtain⟨z,mz,rfl⟩:=uO.mp hp;exact⟨z,mz,rfl⟩
  rintro⟨⟨⟩,st'⟩ s' ⟨rfl,hp,hf,hs⟩;dsimp only;obtain⟨ys,py,ey⟩:=fJ (f:=fun z:Addr×(Int×Int)=>((.ref z.1,.ref z.1):Keyed)) (zs:=zs) (l:=(arrOf st').toList) (by rw[<-pz];exact wj.mp hp);have eo:=outL ey;have ly:(aA ys).length=zs.length:=by rw[aA,uj];exact py.length_eq
  refine uf (seqEpoch_at ho6 rfl ?_);refine uf (listUpdate_at ho6 rfl ?_ (vg _) (by show((arrOf st').map (·.2)).size<=_;rw[eo,uC,ly,vQ];omega));rw[hf];simp only[bne_self_eq_false,ve,if_false];refine ug ?_;rw[eo];refine h ys py ?_;rw[vA];intro i j hi hj hij;rw[uj]at hi hj;have sz:(pairsOf (aA zs)).size=ys.length:=by rw[pairsOf_size,lz];exact py.length_eq.symm
  have le:=hs i j (Nat.le_of_lt hij) (by rw[sz];exact hj);have at_:∀k(hk:k<ys.length),K (arrOf st') k=ptN (ys[k]'hk).2:=fun k hk=>by unfold K;rw[<-uE,ey,uU,uq hk];exact jc one (py.mem_iff.mp (List.getElem_mem hk))
  rw[at_ i hi,at_ j hj]at le;rw[List.getElem_map,List.getElem_map];exact le
end
section
variable{X:Cx}
def PlA(K:Frag)(H:Hp)(b:Addr)(p:Int×Int):Prop:=∃v rest,H b=some (.lst (.ref v::rest))/\SqT K H v [.int p.1,.int p.2]
theorem h8(hu:X.A.units+64<cLine):ef X (.builtin "sorted") (fun xs H Q=>∃(p:Addr)(zs:AP),xs=[.ref p]/\SqL X.K H p (zs.map fun z=>V.ref z.1)/\(∀z∈zs,PlA X.K H z.1 z.2)/\(∀z∈zs,ij z.2)/\(zs.map (·.2)).Nodup/\zs.length<1000/\
  ∀(l:Addr)(ys:AP),H l=none->ys.Perm zs->(ys.map fun z=>ptN z.2).Pairwise (·<=·)->Q (.ref l) (upd H l (.lst (ys.map fun z=>V.ref z.1)))):=by
 intro pins s σ H xs us Q I r h;obtain⟨p,zs,rfl,hx,hz,ok,nd,h64,q⟩:=h;obtain⟨u,rfl,ru⟩:=vals1 r;cases ru;obtain⟨vs,rv,pl,hzl⟩:=I.list hx;have refs:∀{ys:AP}{us:List Value},Vals (ys.map fun z=>V.ref z.1) us->us=aA ys:=by
  intro ys
  induction ys with
  |nil=>intro us r;cases r;rfl
  |cons z ys ih=>
   intro us r;rw[vi]at r;cases r with
   |cons a b=>cases a;rw[ih b];rfl
 have valsR:∀ys:AP,Vals (ys.map fun z=>V.ref z.1) (aA ys):=by
  intro ys
  induction ys with
  |nil=>exact .nil
  |cons z ys ih=>exact .cons rfl ih
 obtain rfl:=refs rv;have two:∀{b:Addr}{x y:Int},SqT X.K H b [.int x,.int y]->Is2 s.heap b (x,y):=fun {b x y} hb=>by obtain⟨its,rv',⟨o,e1,e2,n,e3⟩,_⟩:=I.tuple hb;obtain⟨v1,v2,rfl,⟨t,rfl⟩,⟨t',rfl⟩⟩:=vals2 rv';exact⟨o,n,t,t',e1,e2,e3⟩
 have tn:∀z∈zs,jE s.heap z.1 z.2:=fun z mz=>by
  obtain⟨v,rest,h1,h2⟩:=hz z mz;obtain⟨_,its,n,rv',_,e1⟩:=I.lstM h1;cases rv' with
  |cons a b=>cases a;exact⟨_,n,v,e1,rfl,two h2⟩
 have one:qF zs:=fun z mz y my e=>by obtain⟨v,rest,h1,h2⟩:=hz z mz;obtain⟨v',rest',k1,k2⟩:=hz y my;rw[e,k1]at h1;cases h1;have b:=I.tuple_inj h2 k2;exact Prod.ext (V.int.inj (uZ b).1) (V.int.inj (uZ (uZ b).2).1)
 have lz:(aA zs).length=zs.length:=uj ..;refine Calls.call_function_entry kind_sorted plain_sorted entry_sorted (args_sorted1 _) ?_;unfold Builtin.«sorted»;refine uf (m:=checkCount "sorted" 1 1 _) (ug ?_);refine uf (collect_list pl.isList ?_ (by rw[lz,vQ];omega));refine uf (wpAny_newList ?_ (by show(aA zs).length<=_;rw[lz,vQ];omega));have hsz:((s.heap.push (seqObj "list" #[] 0)).update s.heap.objs.size (Obj.mapSeq (·++(aA zs).toArray))).objs.size=s.heap.objs.size+1:=by rw[Heap.size_update,size_push']
 have hoL:(((s.heap.push (seqObj "list" #[] 0)).update s.heap.objs.size (Obj.mapSeq (·++(aA zs).toArray))).push (seqObj "list" (aA zs).toArray 0)).get? (s.heap.objs.size+1)=some (seqObj "list" (aA zs).toArray 0):=by rw[<-hsz];exact uK _ rfl
 have kp:∀b o,s.heap.get? b=some o->(((s.heap.push (seqObj "list" #[] 0)).update s.heap.objs.size (Obj.mapSeq (·++(aA zs).toArray))).push (seqObj "list" (aA zs).toArray 0)).get? b=some o:=fun b o e=>uh _ (((Heap.SameBut.update _ s.heap.objs.size _).2 b (uX (uw e))).trans (uh _ e))
 show wpAny _ _ _ _ _ {s with heap:=((s.heap.push (seqObj "list" #[] 0)).update s.heap.objs.size (Obj.mapSeq (·++(aA zs).toArray))).push (seqObj "list" (aA zs).toArray 0)};rw[hsz];refine uf (wpAny_holding (wpAny_call_entry slot_list_sort ⟨_,hoL,rfl⟩ entry_list_sort (pE hoL (by simp;omega) (fun z mz=>?_) (fun z mz=>?_) ok nd one h64 fun ys py so=>⟨_,rfl,?_⟩) (args_list_sort _)))
 ·obtain⟨its,n,b,f1,f2,o,n2,t,u,f3,f4,f5⟩:=tn z mz;exact⟨its,n,b,kp _ _ f1,f2,o,n2,t,u,kp _ _ f3,f4,f5⟩
 ·obtain⟨its,n,b,f1,_⟩:=tn z mz;exact uX (Nat.lt_succ_of_lt (uw f1))
 refine ug ⟨_,rfl,?_⟩;obtain⟨e,he⟩:=sortedAll_at s.heap (aA zs) (aA ys).toArray;have fr:H (s.heap.objs.size+1)=none:=I.hok.fresh (Nat.le_succ _);have ly:=py.length_eq;exact⟨.ref _,_,I.track (t':=s.toks) (n:=e) (its:=aA ys) (I.fpOk (Nat.le_succ _) fr) (fun b o _ z=>sortedAll_old z) (valsR ys) (by rw[uj,vQ];omega) he,rfl,q _ ys fr py so⟩
end
end LT
namespace L2
open PySem PySem.Spec PyProof.Rows
section
variable{P:Program}{w:World}
theorem bb.keepT{h h':Heap}{c:Col}{us:List Value}(k:∀b ob,ob.cls=.type "tuple"->h.get? b=some ob->h'.get? b=some ob)(p:bb P w h c us):bb P w h' c us:=by
 induction p with
 |nil=>exact .nil
 |cons p1 _ ih=>obtain⟨o,its,n,h1,h2,h3,h4⟩:=p1;exact .cons ⟨o,its,n,k _ _ h2 h1,h2,h3,h4⟩ ih
theorem bJ.keepT{h h':Heap}{c:Col}{a:Addr}(k:∀b ob,ob.cls=.type "tuple"->h.get? b=some ob->h'.get? b=some ob)(p:bJ P w h c a):bJ P w h' c a:=by obtain⟨l,ob,its,n,p1,p2,p3,p4⟩:=p;exact⟨l,ob,its,n,k _ _ p2 p1,p2,p3,p4.keepT k⟩
theorem jv{h h':Heap}{D:Addr}{xs:List (Col×Addr×Value)}(k:∀b ob,(b=D\/ob.cls=.type "tuple")->h.get? b=some ob->h'.get? b=some ob)(hm:h.DictOfH (bV P w) D xs):h'.DictOfH (bV P w) D xs:=by obtain⟨o,es,ep,h1,h2,h3,h4,h5,h6⟩:=hm;exact⟨o,es,ep,k _ _ (.inl rfl) h1,h2,h3,h4,fun x hx=>bJ.keepT (fun b ob e=>k b ob (.inr e)) (h5 x hx),h6⟩
noncomputable def stH(xs:List (Col×Addr×Value)):List (Col×Addr×Value):=xs.foldl (fun a x=>storedH a x.1 x.2.1 x.2.2) []
theorem l8:∀(xs:List (Col×Addr×Value)),(stH xs).length<=xs.length:=by
 have key:∀(xs a:List (Col×Addr×Value)),(xs.foldl (fun a x=>storedH a x.1 x.2.1 x.2.2) a).length<=a.length+xs.length:=by
  intro xs
  induction xs with
  |nil=>exact fun a=>uA _
  |cons x xs ih=>
   intro a;have h1:=ih (storedH a x.1 x.2.1 x.2.2);have h2:(storedH a x.1 x.2.1 x.2.2).length<=a.length+1:=by unfold storedH;split<;>simp
   show(xs.foldl _ (storedH a x.1 x.2.1 x.2.2)).length<=_;rw[wm];omega
 intro xs;have:=key xs [];rw[List.length_nil]at this;unfold stH;omega
end
section
variable{prog:Program}{w:World}{A:Around}{E:Value->Shared->Prop}{s:Shared}
theorem fP{R:Result->Shared->Prop}(hh:A.handled=none)(hu:A.units+8<cLine){a it D:Addr}{its:Array Value}{kvs:List (Col×Addr×Value)}(hlen:its.size=kvs.length)(hz:kvs.length<=sizeLine)(hne1:a≠it)(hne2:D≠it)(hne3:a≠D)
  (hsD:∀o,s.heap.get? D=some o->o.cls≠ .type "tuple") (hsI:∀o,s.heap.get? it=some o->o.cls≠ .type "tuple")
  (hp:∀(i:Nat)(k:Col)(b:Addr)(u:Value),kvs[i]?=some (k,b,u)->∃p,its[i]?=some (.ref p)/\IsTup s.heap p #[.ref b,u]/\bJ prog w s.heap k b):
  ∀(m i:Nat)(s1:Shared),kvs.length-i=m->i<=kvs.length->s1.heap.IsListIter it a i->s1.heap.IsList a its->s1.heap.DictOfH (bV prog w) D (stH (kvs.take i))->
  (∀b ob,b≠D->b≠it->s.heap.get? b=some ob->s1.heap.get? b=some ob)->
  (∀h' tk,h'.DictOfH (bV prog w) D (stH kvs)->(∀b ob,b≠D->b≠it->s.heap.get? b=some ob->h'.get? b=some ob)->R (.ok (.ret .none)) {s1 with heap:=h',toks:=tk})->
  codeAny (model prog w) A (.builtin "dict.update.loop" ⟨[.ref D,.ref it,rawInt i,.none],[]⟩) R s1:=by
 intro m
 induction m with
 |zero=>
  intro i s1 hk hi hit ht hD keep hR;have hin:i=kvs.length:=by omega
  subst hin;refine codeAny_builtin F.dh ?_;rw[vM F.bG _];show wpAny _ A.in1 (pyNext (.ref it)>>= _) _ _ s1;refine uf (wpAny_pyNext_list_end (by simpa using hh) hit ht (by simp[hlen]) fun h' hx=>?_);show wpAny (model prog w) A.in1 (Builtin.Dict.addKeywords D []>>= fun _=>ret Value.none) _ _ _;refine uf (ug (ug ?_));rw[vl]at hD;refine hR h' _ (jv (fun b ob e1 e2=>hx b ob (fun z=>?_) e2) hD) fun b ob h1 h2 e=>hx b ob h2 (keep b ob h1 h2 e);rcases e1 with e1|e1
  ·exact hne2 (e1.symm.trans z)
  ·obtain⟨oi,hoi,hci,_⟩:=hit;rw[z,hoi]at e2;cases e2;rw[hci]at e1;exact absurd e1 (by decide)
 |succ m ih=>
  intro i s1 hk hi hit ht hD keep hR;have hlt:i<kvs.length:=by omega
  obtain⟨⟨k,b0,u⟩,hkv⟩:∃kv,kvs[i]?=some kv:=⟨kvs[i],by simp[hlt]⟩;obtain⟨p,hi1,hp1,hcol⟩:=hp i k b0 u hkv;refine codeAny_builtin F.dh ?_;rw[vM F.bG _];show wpAny _ A.in1 (pyNext (.ref it)>>= _) _ _ s1;have hitc:∀o,s1.heap.get? it=some o->o.cls≠ .type "tuple":=fun o ho=>by obtain⟨oi,hoi,hci,_⟩:=hit;rw[hoi]at ho;cases ho;rw[hci];decide
  refine uf (wpAny_pyNext_list_item hit ht hi1 fun h' hit' hs'=>?_);have keep':∀b ob,b≠D->b≠it->s.heap.get? b=some ob->h'.get? b=some ob:=fun b ob h1 h2 e=>(hs'.2 b h2).trans (keep b ob h1 h2 e);obtain⟨po,hpo,hpc,pn,hpd⟩:=hp1;have tup:∀b ob,ob.cls=.type "tuple"->s.heap.get? b=some ob->h'.get? b=some ob:=fun b ob e1 e2=>keep' b ob (fun z=>hsD ob (by rw[<-z];exact e2) e1) (fun z=>hsI ob (by rw[<-z];exact e2) e1) e2;have hpo':=tup p po hpc hpo;have hcol':=hcol.keepT tup
  have hD':h'.DictOfH (bV prog w) D (stH (kvs.take i)):=jv (fun b ob e1 e2=>(hs'.2 b (fun z=>by
   rcases e1 with e1|e1
   ·exact hne2 (e1.symm.trans z)
   ·exact hitc ob (by rw[<-z];exact e2) e1)).trans e2) hD
  dsimp only;refine uf (wpAny_holding ?_);refine uf (wpAny_tryCatch ?_);unfold Builtin.Dict.pairItems;refine uf (wpAny_typeOf (T:="tuple") ⟨po,hpo',hpc⟩ ?_);rw[um (by decide)];refine uf (wpAny_seqItems hpo' hpd (ug ?_));show wpAny (model prog w) A.in1 (holding [.ref b0,u] (dictSet D (.ref b0) u)) _ _ _
  refine wpAny_holding (wpAny_dictSet_heap (knd:=bV prog w) (hsz:=by
   have e1:=l8 (kvs.take i);rw[uG]at e1
   omega) (show A.in1.units+3<cLine by simp only[Around.in1_units];omega) hcol' hD' fun h2 hD2 hs2=>?_)
  refine ug ⟨plainId_quiet F.bG _,?_⟩;have e2:rawInt (↑i+1)=rawInt ((i+1:Nat):Int):=rfl;rw[e2];refine ih (i+1) _ (by omega) (by omega) ?_ ?_ ?_ (fun b ob h1 h2' e=>(hs2.2 b h1).trans (keep' b ob h1 h2' e)) fun h3 tk3=>hR h3 tk3
  ·obtain⟨oi,hoi,r⟩:=hit';exact⟨oi,(hs2.2 it (Ne.symm hne2)).trans hoi,r⟩
  ·obtain⟨oa,hoa,r⟩:=ht;exact⟨oa,(hs2.2 a hne3).trans ((hs'.2 a hne1).trans hoa),r⟩
  ·have e3:stH (kvs.take (i+1))=storedH (stH (kvs.take i)) k b0 u:=by
    unfold stH;rw[uM,hkv,uS,List.foldl_append];rfl
   rw[e3];exact hD2
theorem fZ{Q:Value->Shared->Prop}(hh:A.handled=none)(hu:A.units+20<cLine){a:Addr}{its:Array Value}{n:Nat}{kvs:List (Col×Addr×Value)}(hx:s.heap.get? a=some {cls:=.type "list",data:=.seq its n})(hlen:its.size=kvs.length)(hz:kvs.length<=sizeLine)
  (hp:∀(i:Nat)(k:Col)(b:Addr)(u:Value),kvs[i]?=some (k,b,u)->∃p,its[i]?=some (.ref p)/\IsTup s.heap p #[.ref b,u]/\bJ prog w s.heap k b)
  (h:∀h' tk,h'.DictOfH (bV prog w) s.heap.objs.size (stH kvs)->(∀b ob,s.heap.get? b=some ob->h'.get? b=some ob)->Q (.ref s.heap.objs.size) {s with heap:=h',toks:=tk}):
  wpAny (model prog w) A (call (.type "dict") [.ref a]) Q E s:=by
 refine callType_codes (Q₁:=fun obj s₁=>obj=.ref s.heap.objs.size/\s₁={s with heap:=s.heap.push {cls:=.type "dict",data:=.dict #[]}}) F.kt_called_dict (F.kt_typeCall_dict_1 _) F.entry_dict_init (kt_code_dict_new _ ⟨rfl,rfl⟩) ?_;rintro obj s₁ ⟨rfl,rfl⟩;have hnew:(s.heap.push {cls:=.type "dict",data:=.dict #[]}).DictOfH (bV prog w) s.heap.objs.size []:=Heap.DictOfH.new s.heap;have hx':=uh {cls:=.type "dict",data:=.dict #[]} hx;refine⟨hnew.typeIs,F.args_dict_init_2 _ _,?_⟩;unfold Builtin.«dict.__init__»;refine uf ?_;unfold Builtin.Dict.selfAndRest;refine uf (wpAny_notOrdered_dict hnew.typeIs ?_);show wpAny _ _ (pure (s.heap.objs.size,[Value.ref a])) _ _ _;refine ug ?_;show wpAny _ _ (Builtin.Dict.updateFrom "dict.__init__" s.heap.objs.size (.ref a) [] .none) _ _ _;unfold Builtin.Dict.updateFrom;refine uf (wpAny_typeOf (T:="list") ⟨_,hx',rfl⟩ ?_);rw[um (by decide)];refine uf (g0 (by simpa using hh) hx' rfl rfl rfl fun h1 t1 k1=>?_);rw[um (show(none:Option Value).isNone=true from rfl)];refine uf (wpAny_rule ?_);have ht1:h1.IsList a its:=⟨_,k1 _ _ hx',rfl,n,rfl⟩;refine uf (Flt.iter_list_ ht1 fun s2 e2 _ _ _=>?_);subst e2;obtain⟨ob0,es0,ep0,hob0,hex0,hdd0,_⟩:=id hnew;have hs0:s.heap.objs.size<h1.objs.size:=uw (k1 _ _ hob0);have ha:=uw hx;have ne1:a≠h1.objs.size:=uX (Nat.lt_trans ha hs0);have ne2:s.heap.objs.size≠h1.objs.size:=uX hs0;have ne3:a≠s.heap.objs.size:=uX ha;refine ug ⟨plainId_quiet F.bG _,?_⟩;have kk:∀b ob,s.heap.get? b=some ob->(h1.push {cls:=.type "list_iterator",data:=.fields #[.ref a,.int 0 0]}).get? b=some ob:=fun b ob e=>uh _ (k1 _ _ (uh _ e));refine fP (s:={s with heap:=h1.push {cls:=.type "list_iterator",data:=.fields #[.ref a,.int 0 0]}}) (by simpa using hh) (by simp;omega) hlen hz ne1 ne2 ne3 ?_ ?_ ?_ kvs.length 0 _ rfl (vg _) ⟨_,uK _ rfl,rfl,rfl⟩ (ht1.push _) ?_ (fun b ob _ _ e=>e) fun h' tk hD keep=>⟨rfl,h h' tk hD fun b ob e=>?_⟩
 ·intro o ho;have:=uh {cls:=.type "list_iterator",data:=.fields #[.ref a,.int 0 0]} (k1 _ _ hob0);rw[this]at ho;cases ho;rw[hex0.1];decide
 ·intro o ho;rw[uK _ rfl]at ho;cases ho;show Value.type "list_iterator"≠Value.type "tuple";decide
 ·intro i k b u e;obtain⟨p,h1',h2,h3⟩:=hp i k b u e;exact⟨p,h1',h2.keeps kk,h3.keepT fun b ob _ e=>kk b ob e⟩
 ·exact jv (fun b ob _ e=>uh _ (k1 _ _ e)) hnew
 ·have lb:=uw e;exact keep b ob (uX lb) (uX (Nat.lt_trans lb hs0)) (kk b ob e)
end
section
variable{X:Cx}
noncomputable def mkT(kvs:CT):CT:=kvs.foldl (fun T x=>cZ T x.1 x.2.1 x.2.2) []
theorem qM{kvs:CT}{vs:List (Col×Addr×Value)}(h:CTv kvs vs):CTv (mkT kvs) (stH vs):=by
 have key:∀{kvs:CT}{vs:List (Col×Addr×Value)},CTv kvs vs->∀{T:CT}{us:List (Col×Addr×Value)},CTv T us->CTv (kvs.foldl (fun T x=>cZ T x.1 x.2.1 x.2.2) T) (vs.foldl (fun a x=>storedH a x.1 x.2.1 x.2.2) us):=by
  intro kvs vs h
  induction h with
  |nil=>exact fun r=>r
  | @cons x y _ _ a _ ih=>intro T us r;obtain⟨a1,a2,a3⟩:=a;have:=oQ (c:=x.1) (b:=x.2.1) a3 r;rw[List.foldl_cons,List.foldl_cons,<-a1,<-a2];exact ih this
 exact key h .nil
theorem qa{kvs:CT}:∀t∈mkT kvs,∃x∈kvs,t.2.1=x.2.1/\t.1=x.1:=by
 have key:∀(kvs T:CT)(S:CT),(∀t∈T,∃x∈S,t.2.1=x.2.1/\t.1=x.1)->(∀x∈kvs,x∈S)->∀t∈kvs.foldl (fun T x=>cZ T x.1 x.2.1 x.2.2) T,∃x∈S,t.2.1=x.2.1/\t.1=x.1:=by
  intro kvs
  induction kvs with
  |nil=>exact fun T S h _=>h
  |cons x kvs ih=>
   intro T S h hs;refine ih (cZ T x.1 x.2.1 x.2.2) S (fun t ht=>?_) fun y hy=>hs y (uv _ hy);unfold cZ at ht;split at ht
   ·obtain⟨u,hu,rfl⟩:=uO.mp ht;obtain⟨z,hz,e1,e2⟩:=h u hu;split
    ·exact⟨z,hz,e1,e2⟩
    ·exact⟨z,hz,e1,e2⟩
   ·rcases uB.mp ht with y|y
    ·exact h t y
    ·rw[ux.mp y];exact⟨x,hs x (uy ..),rfl,rfl⟩
 exact key kvs [] kvs (fun t ht=>nomatch ht) fun x hx=>hx
def rf(P:Program)(w:World)(K:Frag):List V->Hp->VK->Prop:=fun xs H Q=>∃a vs kvs,xs=[.ref a]/\H a=some (.lst vs)/\kvs.length<=1000/\
 Paired (fun v (kv:Col×Addr×V)=>∃r,v=.ref r/\SqT K H r [.ref kv.2.1,kv.2.2]/\dR K H kv.2.1 kv.1) vs kvs/\∀d o,H d=none->jG P w o (mkT kvs)->(d==sysModules)=false->Q (.ref d) (upd H d (cp d o))
theorem lO(hc:X.calm=true)(hu:X.A.units+64<cLine):ef X (.type "dict") (rf X.prog X.w X.K):=by
 intro pins s σ H xs us Q I r h;obtain⟨a,vs,kvs,rfl,ha,hz,pr,q⟩:=h;obtain⟨u,rfl,rx⟩:=vals1 r;cases rx;obtain⟨_,its,n,rv,_,ho⟩:=I.lstM ha;have key:∀{vs:List V}{us:List Value}{kvs:CT},Vals vs us->Paired (fun v (kv:Col×Addr×V)=>∃r,v=.ref r/\SqT X.K H r [.ref kv.2.1,kv.2.2]/\dR X.K H kv.2.1 kv.1) vs kvs->
   ∃ws:List (Col×Addr×Value),CTv kvs ws/\us.length=ws.length/\∀(i:Nat)(k:Col)(b:Addr)(u:Value),ws[i]?=some (k,b,u)->∃p,us[i]?=some (.ref p)/\IsTup s.heap p #[.ref b,u]/\bJ X.prog X.w s.heap k b:=by
  intro vs us kvs rv pr
  induction pr generalizing us with
  |nil=>have:=rv.zero;subst this;exact⟨[],.nil,rfl,fun i k b u e=>by simp at e⟩
  | @cons v kv vs' kvs' hv pt ih=>
   obtain⟨r,rfl,hr,hcv⟩:=hv;cases rv with
   | @cons _ w1 _ us' r1 r2=>
    cases r1;obtain⟨ws,k1,k2,k3⟩:=ih r2;obtain⟨its2,rv2,pl2,_⟩:=I.tuple hr;obtain⟨y1,y2,rfl,q1,q2⟩:=vals2 rv2;cases q1;refine⟨(kv.1,kv.2.1,y2)::ws,.cons ⟨rfl,rfl,q2⟩ k1,by simp[k2],fun i k b u e=>?_⟩;cases i with
    |zero=>simp at e;obtain⟨rfl,rfl,rfl⟩:=e;exact⟨r,rfl,pl2,hcv.is I⟩
    |succ i=>obtain⟨p,e1,e2⟩:=k3 i k b u (by simpa using e);exact⟨p,by simpa using e1,e2⟩
 obtain⟨ws,k1,k2,k3⟩:=key rv pr;have lk:=g9 k1;have sl:(1000:Nat)<=sizeLine:=by decide
 refine fZ (kvs:=ws) (I.ok.hd hc) (by omega) ho (by simpa using k2) (by omega) (fun i k b u e=>?_) fun h' tk hD keep=>?_
 ·obtain⟨p,e1,e2⟩:=k3 i k b u e;exact⟨p,by simpa using e1,e2⟩
 ·obtain⟨ob,es,ep,e1,e2,e3,e4,e5,e6⟩:=hD;have hl:=l8 ws;have lm:=g9 (qM k1);refine⟨.ref s.heap.objs.size,_,I.laid (t':=tk) (o:=cp s.heap.objs.size ob) keep (uA _) (jl e1),rfl,q _ ob (I.hok.fresh (uA _)) ⟨e2,by omega,es,ep,_,e3,e4,qM k1,e6⟩ (beq_eq_false_iff_ne.mpr (Ne.symm (uX I.big)))⟩
theorem n4{i o:Expr}{td ty:TE}(hu:X.A.units+64<cLine)(hi:PE X i ty)(ho:PE X o td):PC X .In i o (qV X.prog X.w X.K false ty td):=by
 intro pins s σ H Q I h;refine thn (hi pins s σ H _ I h) fun iv s1 hPz=>L2.ep3 hPz fun y H1 I1 ry q1=>thn (ho pins s1 σ H1 _ I1 q1) fun u s2 hPz=>?_;obtain⟨x,H2,I2,rx,d,ob,T,b,c,ex,hc,ey,hb,q2⟩:=hPz;subst ex ey;cases rx;cases ry;obtain⟨h1,h2,h3,h4⟩:=hc;obtain⟨vs,rv,DD⟩:=h2.dict I2 h1 h4;refine wpAny_in_heap (show X.A.in1.units+3<cLine by simp only[Around.in1_units];omega) (hb.is I2) h3 DD ?_;have e:(atKey vs c).isSome=(atT T c).isSome:=by rcases qN (c:=c) rv with⟨z1,z2⟩|⟨v',p,z1,z2,_⟩<;>rw[z1,z2]<;>rfl
 rw[e];exact⟨.bl _,H2,I2.tok _,rfl,q2⟩
theorem kW{P:Program}{w:World}{K:Frag}{i o:Expr}{td ty:TE}(h1:X.prog=P)(h2:X.w=w)(h3:X.K=K)(hu:X.A.units+64<cLine)(hi:PE X i ty)(ho:PE X o td):PC X .NotIn i o (qV P w K true ty td):=by subst h1 h2 h3;exact iH hu hi ho
end
end L2
namespace L2
open PySem PySem.Spec PyProof.Rows LM
open LT (cC sdN fE)
open LO (Sd Dr Gr grd brd nxt itr wlk at4)
noncomputable def aK(s:Sd):Col:=[[.inl s.x,.inl s.y],[.inl s.ex,.inl s.ey]]
theorem eH{s t:Sd}(h:aK s=aK t):s=t:=by
 obtain⟨h1,h2⟩:=uZ h;have h3:=(uZ h2).1;refine LO.kO ?_ ?_ ?_ ?_
 ·exact Sum.inl.inj (uZ h1).1
 ·exact Sum.inl.inj (uZ (uZ h1).2).1
 ·exact Sum.inl.inj (uZ h3).1
 ·exact Sum.inl.inj (uZ (uZ h3).2).1
section
variable{K:Frag}{H H':Hp}{b:Addr}{s:Sd}
theorem bK(h:cC K H b s):dR K H b (aK s):=by
 obtain⟨p,q,h1,h2,h3⟩:=h;refine⟨fun r hr k hk=>?_,_,h1,.cons ⟨p,rfl,h2⟩ (.cons ⟨q,rfl,h3⟩ .nil)⟩;rcases uY.mp hr with rfl|hr
 ·rcases uY.mp hk with rfl|hk
  ·rfl
  ·rw[ux.mp hk];rfl
 ·rw[ux.mp hr]at hk;rcases uY.mp hk with rfl|hk
  ·rfl
  ·rw[ux.mp hk];rfl
theorem qB(h:dR K H b (aK s)):cC K H b s:=by
 obtain⟨_,xs,h1,h2⟩:=h;cases h2 with
 |cons a t=>
  obtain⟨p,rfl,hp⟩:=a;cases t with
  |cons a' t'=>obtain⟨q,rfl,hq⟩:=a';cases t';exact⟨p,q,h1,hp,hq⟩
theorem aS(t:TK H H')(h:cC K H b s):cC K H' b s:=by obtain⟨p,q,h1,h2,h3⟩:=h;exact⟨p,q,t.sq h1,t.sq h2,t.sq h3⟩
end
def aN(K:Frag)(H:Hp)(v:V)(s:Sd):Prop:=∃b,v=.ref b/\cC K H b s
theorem aN.tk{K:Frag}{H H':Hp}{v:V}{s:Sd}(t:TK H H')(h:aN K H v s):aN K H' v s:=by obtain⟨b,e,h1⟩:=h;exact⟨b,e,aS t h1⟩
def PtE(K:Frag)(H:Hp)(v:V)(p:LO.Pt):Prop:=∃b,v=.ref b/\SqT K H b [.int p.1,.int p.2]
theorem PtE.tk{K:Frag}{H H':Hp}{v:V}{p:LO.Pt}(t:TK H H')(h:PtE K H v p):PtE K H' v p:=by obtain⟨b,e,h1⟩:=h;exact⟨b,e,t.sq h1⟩
end L2
namespace LO
noncomputable def eN(x y:Int):List Sd:=[⟨x,y+1,.s⟩,⟨x,y,.e⟩,⟨x+1,y,.n⟩,⟨x+1,y+1,.w⟩]
theorem eJ{x y:Int}{s:Sd}:s∈eN x y<->s.d.cx s.x=x/\s.d.cy s.y=y:=by obtain⟨a,b,d⟩:=s;have e:∀{a b:Int}{d:Dr}{a' b':Int}{d':Dr},((⟨a,b,d⟩:Sd)=⟨a',b',d'⟩)<->a=a'/\b=b'/\d=d':=fun {a b d a' b' d'}=>⟨fun h=>by cases h;exact⟨rfl,rfl,rfl⟩,fun⟨h1,h2,h3⟩=>by rw[h1,h2,h3]⟩;unfold eN;simp only[uY,vB,or_false,e];cases d<;>simp[Dr.cx,Dr.cy]<;>omega
theorem kT(x y:Int):(eN x y).Nodup:=by
 have e:∀{a b:Int}{d:Dr}{a' b':Int}{d':Dr},d≠d'->(⟨a,b,d⟩:Sd)≠⟨a',b',d'⟩:=fun h z=>h (congrArg Sd.d z);unfold eN;refine vh.mpr ⟨fun h=>?_,vh.mpr ⟨fun h=>?_,vh.mpr ⟨fun h=>?_,vh.mpr ⟨vB,List.nodup_nil⟩⟩⟩⟩
 ·simp at h
 ·simp at h
 ·simp at h
noncomputable def Sd.rev(s:Sd):Sd:=⟨s.ex,s.ey,s.d.lf.lf⟩
theorem dY(s:Sd):s.rev.x=s.ex/\s.rev.y=s.ey/\s.rev.ex=s.x/\s.rev.ey=s.y:=by
 obtain⟨x,y,d⟩:=s;refine⟨rfl,rfl,?_,?_⟩
 ·cases d<;>simp[Sd.rev,Sd.ex,Dr.lf,Dr.dx]<;>omega
 ·cases d<;>simp[Sd.rev,Sd.ey,Dr.lf,Dr.dy]<;>omega
theorem fV{w h g:Nat}(hw:0<w){s:Sd}:(∃k,k<w*h/\g.testBit k=true/\s∈eN ((k % w:Nat):Int) ((k / w:Nat):Int))<->at4 (grd w h g) s.x s.y s.d=true:=by
 constructor
 ·rintro⟨k,hk,hb,hm⟩;obtain⟨e1,e2⟩:=eJ.mp hm;have m:=Nat.mod_lt k hw;have q:k / w<h:=Nat.div_lt_of_lt_mul hk;show grd w h g (s.d.cx s.x) (s.d.cy s.y)=true;rw[e1,e2];unfold grd;have e:k / w*w+k % w=k:=by rw[Nat.mul_comm];exact Nat.div_add_mod k w
  rw[uD (Int.natCast_nonneg (k % w)),uD (Int.ofNat_lt.mpr m),uD (Int.natCast_nonneg (k / w)),uD (Int.ofNat_lt.mpr q),vb,vb,e,hb];rfl
 ·intro h';have h':grd w h g (s.d.cx s.x) (s.d.cy s.y)=true:=h';unfold grd at h';simp only[vo,uH]at h';obtain⟨⟨⟨⟨a1,a2⟩,a3⟩,a4⟩,a5⟩:=h';generalize hX:s.d.cx s.x=X at a1 a2 a5;generalize hY:s.d.cy s.y=Y at a3 a4 a5;obtain⟨x,rfl⟩:=Int.eq_ofNat_of_zero_le a1;obtain⟨y,rfl⟩:=Int.eq_ofNat_of_zero_le a3;rw[vb,vb]at a5;have x1:x<w:=Int.ofNat_lt.mp a2;have y1:y<h:=Int.ofNat_lt.mp a4;have e1:(y*w+x) % w=x:=by rw[Nat.mul_comm,Nat.mul_add_mod];exact vV x1
  have e2:(y*w+x) / w=y:=by rw[Nat.mul_comm,Nat.mul_add_div hw,Nat.div_eq_of_lt x1,Nat.add_zero]
  refine⟨y*w+x,?_,a5,eJ.mpr ⟨by rw[e1];exact hX,by rw[e2];exact hY⟩⟩;have:(y+1)*w<=h*w:=Nat.mul_le_mul_right w y1;rw[Nat.add_mul,Nat.one_mul,Nat.mul_comm h w]at this;omega
theorem jB{G:Gr}{s:Sd}:brd G s=(at4 G s.x s.y s.d&& !at4 G s.rev.x s.rev.y s.rev.d):=by unfold brd;rw[<-mv];rfl
theorem f7{w h g:Nat}(hw:w<=8)(hh:h<=8){s:Sd}(hb:at4 (grd w h g) s.x s.y s.d=true):LT.fE s:=by obtain⟨x,y,d⟩:=s;have h':grd w h g (d.cx x) (d.cy y)=true:=hb;unfold grd at h';simp only[vo,uH]at h';obtain⟨⟨⟨⟨a1,a2⟩,a3⟩,a4⟩,_⟩:=h';unfold LT.fE;cases d<;>simp[Dr.cx,Dr.cy,Sd.ex,Sd.ey,Dr.dx,Dr.dy]at* <;>omega
end LO
namespace L2
theorem sq2{K:Frag}{H:Hp}{b:PySem.Addr}{x y x' y':Int}(h:SqT K H b [.int x,.int y])(e1:x=x')(e2:y=y'):SqT K H b [.int x',.int y']:=by rw[<-e1,<-e2];exact h
end L2
namespace L2
open PySem PySem.Spec PyProof.Rows
noncomputable def kI(K:Frag)(a:Addr):It:=
 ⟨fun i H=>∃xs x,SqL K H a xs/\xs[i]?=some x,fun i H x H'=>∃T v,H T=none/\x=.ref T/\H'=upd H T (.tup [.int (i:Nat),v])/\∀xs,SqL K H a xs->xs[i]?=some v,fun i H=>∃xs,SqL K H a xs/\xs.length=i⟩
theorem kN{P:Program}{w:World}{K:Frag}{elts:List Expr}{x1:Nat}{pos:Pos}(a e it:Addr)(ne:e≠it):Turn P w K (.Tuple elts x1 pos) (kI K a) [e,it] e (fun i h=>(∃old,IsEnum h e it (i:Nat) old)/\h.IsListIter it a i) where
 mem:=by simp
 obj:=fun i h st b hb=>by
  have z:b=e\/b=it:=by simpa using hb
  obtain⟨⟨old,st1⟩,o,st2,c,d⟩:=st;rcases z with rfl|rfl
  ·exact⟨_,st1,fun v z=>by cases z⟩
  ·exact⟨o,st2,fun v z=>by rw[d]at z;cases z⟩
 keep:=fun i h h' st k=>by obtain⟨⟨old,st1⟩,st2⟩:=st;exact⟨⟨old,k e (by simp) _ st1⟩,st2.at fun o g=>k it (by simp) o g⟩
 item:=by
  intro X hP hw hK hc i pins s σ H E I hf st hg;subst hP hw hK;obtain⟨xs,x,hq,hx⟩:=hg;obtain⟨its,rv,p0,hz⟩:=I.list hq;have p:=p0.isList;obtain⟨u,hu,ru⟩:=rv.get hx;obtain⟨⟨old,st1⟩,st2⟩:=st;have fe:=hf e (by simp);have fi:=hf it (by simp);have hai:a≠it:=fun z=>by obtain⟨o,g1,c1,_⟩:=st2;obtain⟨o',g2,c2,_⟩:=p;rw[z,g1]at g2;cases g2;rw[c1]at c2;exact absurd c2 (by decide)
  have hae:a≠e:=fun z=>by obtain⟨o',g2,c2,_⟩:=p;rw[z,st1]at g2;cases g2;have c3:Value.type "enumerate"=Value.type "list":=c2;exact absurd c3 (by decide)
  have lt:i<its.toArray.size:=by have:=(ur.mp hu).1;simpa using this
  have D:Draws X.prog X.w X.A.in1 it [it,a] its.toArray.size (fun i x=>its.toArray[i]?=some x) (fun i h=>h.IsListIter it a i/\h.IsList a its.toArray):=Draws.list (A:=X.A.in1) (I.ok.hd hc) it a hai its.toArray;refine wpAny_pyNext_enum_itemD D st1 ⟨st2,p⟩ lt ne (by simp[ne,Ne.symm hae]) fun y h' tk hy o1 o2 o3 o4 k=>?_;have ey:y=u:=by have z:its.toArray[i]?=some u:=(by simpa using hu);rw[z]at hy;exact(vJ hy).symm
  subst ey;refine⟨_,rfl,?_⟩;refine wpAny_letOwnedTupleGo_enum (s:={s with heap:=h',toks:=tk+1}) o1 fun h2 st1' sb=>?_;have nT:s.heap.objs.size≠e:=Nat.ne_of_gt (uw st1);have kk:∀b o,b≠e->b≠it->s.heap.get? b=some o->h2.get? b=some o:=fun b o q1 q2 q=>(sb.2 b q1).trans (k b o q1 q2 q);refine⟨.ref s.heap.objs.size,upd H s.heap.objs.size (.tup [.int (i:Nat),x]),(show Inv X pins σ (upd H s.heap.objs.size (.tup [.int (i:Nat),x])) {s with heap:=h2,toks:=tk+1}from pD (s:=s) (h':=h2) (t':=tk+1) I kk fe fi (uA _) ?_),rfl,⟨_,x,I.hok.fresh (uA _),rfl,rfl,fun ys hy=>by rw[I.list_inj hy hq];exact hx⟩,⟨⟨_,by simpa using st1'⟩,?_⟩,fun b hb=>?_⟩
  ·exact⟨by show 2<=sizeLine;decide,[.int i tk,y],.cons ⟨tk,rfl⟩ (.cons ru .nil),⟨_,(sb.2 _ nT).trans o3,rfl,_,rfl⟩⟩
  ·exact o2.1.at fun o g=>(sb.2 it (Ne.symm ne)).trans g
  ·have nb:b≠s.heap.objs.size:=by
    have z:b=e\/b=it:=(by simpa using hb);rcases z with rfl|rfl
    ·exact uX (uw st1)
    ·obtain⟨o,g,_⟩:=st2;exact uX (uw g)
   rw[ax nb];exact(hf b hb).1
 done:=by
  intro X hP hw hK hc i pins s σ H E I hf st hg;subst hP hw hK;obtain⟨xs,hq,hx⟩:=hg;obtain⟨its,rv,p0,hz⟩:=I.list hq;have p:=p0.isList;obtain⟨⟨old,st1⟩,st2⟩:=st;obtain⟨f0,f1,f2,f3,f4,f5⟩:=hf it (by simp);have hai:a≠it:=fun z=>by obtain⟨o,g1,c1,_⟩:=st2;obtain⟨o',g2,c2,_⟩:=p;rw[z,g1]at g2;cases g2;rw[c1]at c2;exact absurd c2 (by decide)
  have D:Draws X.prog X.w X.A.in1 it [it,a] its.toArray.size (fun i x=>its.toArray[i]?=some x) (fun i h=>h.IsListIter it a i/\h.IsList a its.toArray):=Draws.list (A:=X.A.in1) (I.ok.hd hc) it a hai its.toArray;have el:i=its.toArray.size:=by have:=rv.length;simp;omega
  exact wpAny_pyNext_enum_endD D st1 ⟨el▸st2,p⟩ fun h' eb=>⟨rfl,I.turned (t':=s.toks) (fun b o hb g=>eb b o hb g) f0 f1 f3 f4 f5⟩
 self:=fun A i s Q E st h=>by obtain⟨⟨old,st1⟩,_⟩:=st;exact wpAny_pyIter_enum st1 h
section
variable{X:Cx}{elts:List Expr}{x1:Nat}{tp:Pos}
def tD(K:Frag)(ta:TA):TI:=fun σ H R=>ta σ H fun vs H1=>∃a,vs=[.ref a]/\(∃xs,SqL K H1 a xs)/\R (kI K a) H1
theorem jZ{l:Expr}{ta:TA}{p pos:Pos}(hg:Gl X "enumerate")(hm:X.mg "enumerate"=none)(ha:PA X [l] ta)(hs:starEach [l] X.env=[(false,eval l X.env)]:=by rfl):PI X (.Tuple elts x1 tp) (.Call (.Name "enumerate" p) [l] [] pos) (tD X.K ta):=by
 intro pins s σ H R I h;refine Call_ (gY I hg hm boot_enumerate (PyProof.Rows.callWith_type1 (thn (ha pos pins s σ H _ I h) fun us s1 hPz=>?_) hs rfl));obtain⟨vs,H1,I1,r1,q1⟩:=hPz;obtain⟨a,e,⟨xs,hq⟩,q⟩:=q1;subst e;cases r1 with
 |cons r rr=>
  cases rr;cases r;obtain⟨its,rv,pt,hz⟩:=I1.list hq;refine call_enumerate_list pt.isList fun h' he hit hsz hk=>?_;refine wpAny_pyIter_enum he ?_;refine⟨s1.heap.objs.size+1,[s1.heap.objs.size+1,s1.heap.objs.size],_,_,H1,rfl,I1.kept (t':=s1.toks) hk,kN a _ _ (Nat.succ_ne_self _),⟨⟨_,he⟩,hit⟩,fun b hb=>?_,q⟩;have z:b=s1.heap.objs.size+1\/b=s1.heap.objs.size:=by simpa using hb
  rcases z with rfl|rfl
  ·exact I1.fpOk (Nat.le_succ _) (I1.hok.fresh (Nat.le_succ _))
  ·exact I1.fpOk (uA _) (I1.hok.fresh (uA _))
end
theorem nv{K:Frag}{a:Addr}{xs:List V}{g:TG}{tb:TS}{D:Ends}{σ:St}{H:Hp}(Pv:Nat->St->Hp->Prop)(h0:Pv 0 σ H)(hl:∀i σ H,i<=xs.length->Pv i σ H->SqL K H a xs)
  (hs:∀i y σ H T,xs[i]?=some y->Pv i σ H->H T=none->g (.ref T) σ (upd H T (.tup [.int (i:Nat),y])) fun σ2 H2=>tb {D with nx:=Pv (i+1),ct:=Pv (i+1),bk:=D.nx} σ2 H2) (hd:∀σ H,Pv xs.length σ H->D.nx σ H):
  ∃W:Nat->Nat->St->Hp->Prop,(∃m,W 0 m σ H)/\∀i m σ H,W i m σ H->
   ((kI K a).stop i H/\D.nx σ H)\/((kI K a).go i H/\∃N:St->Hp->Prop,(∀σ' H',N σ' H'->∃m',m'<m/\W (i+1) m' σ' H')/\∀x H',(kI K a).yld i H x H'->g x σ H' fun σ2 H2=>tb {D with nx:=N,ct:=N,bk:=D.nx} σ2 H2):=by
 refine⟨fun i m σ H=>m=xs.length-i/\i<=xs.length/\Pv i σ H,⟨xs.length,by simp,vg _,h0⟩,?_⟩;rintro i m σ H ⟨rfl,hi,p⟩;have q:=hl i σ H hi p;by_cases hlt:i<xs.length
 ·refine .inr ⟨⟨xs,xs[i],q,by simp[hlt]⟩,Pv (i+1),fun σ' H' p'=>⟨xs.length-(i+1),by omega,rfl,hlt,p'⟩,fun x H' y=>?_⟩;obtain⟨T,v,hT,rfl,rfl,y⟩:=y;exact hs i v σ H T (y xs q) p hT
 ·have e:i=xs.length:=by omega
  exact .inl ⟨⟨xs,q,e.symm⟩,hd σ H (e▸p)⟩
theorem tG{K:Frag}{a:Addr}{xs:List V}{g:TG}{tt:TT}{te:TE}{σ0:St}{Q:Hp->Prop}{D:Addr}{H:Hp}(Pv:Nat->List V->Hp->Prop)(h0:Pv 0 [] H)(hl:∀i acc H,i<=xs.length->Pv i acc H->SqL K H a xs)
  (hs:∀i x acc H2 T,xs[i]?=some x->Pv i acc H2->H2 T=none->g (.ref T) σ0 (upd H2 T (.tup [.int (i:Nat),x])) fun σ2 H4=>tt σ2 H4 fun b H5=>if b=true then te σ2 H5 fun y H6=>H6 D=some (.lst acc)/\acc.length<sizeLine/\Pv (i+1) (acc++[y]) (upd H6 D (.lst (acc++[y])))else Pv (i+1) acc H5)
  (hd:∀acc H2,Pv xs.length acc H2->Q H2):
  ∃W:Nat->Nat->List V->Hp->Prop,(∃m,W 0 m [] H)/\∀i m acc H2,W i m acc H2->
   ((kI K a).stop i H2/\Q H2)\/((kI K a).go i H2/\∃N:List V->Hp->Prop,(∀acc' H',N acc' H'->∃m',m'<m/\W (i+1) m' acc' H')/\∀x H3,(kI K a).yld i H2 x H3->g x σ0 H3 fun σ2 H4=>tt σ2 H4 fun b H5=>if b=true then te σ2 H5 fun y H6=>H6 D=some (.lst acc)/\acc.length<sizeLine/\N (acc++[y]) (upd H6 D (.lst (acc++[y])))else N acc H5):=by
 refine⟨fun i m acc H=>m=xs.length-i/\i<=xs.length/\Pv i acc H,⟨xs.length,by simp,vg _,h0⟩,?_⟩;rintro i m acc H2 ⟨rfl,hi,p⟩;have q:=hl i acc H2 hi p;by_cases hlt:i<xs.length
 ·refine .inr ⟨⟨xs,xs[i],q,by simp[hlt]⟩,Pv (i+1),fun acc' H' p'=>⟨xs.length-(i+1),by omega,rfl,hlt,p'⟩,fun x H3 y=>?_⟩;obtain⟨T,v,hT,rfl,rfl,y⟩:=y;exact hs i v acc H2 T (y xs q) p hT
 ·have e:i=xs.length:=by omega
  exact .inl ⟨⟨xs,q,e.symm⟩,hd acc H2 (e▸p)⟩
end L2
namespace L2
open PySem PySem.Spec PyProof.Rows
open LO LT
theorem kC:∀(V:List Sd)(d:Dr)(s:Sd),cor d (V++[s])=cor d V++(if s.d≠(V.getLast?.map fun t=>t.d).getD d then[s.st]else[])
 | [],d,s=>rfl
 |t::V,d,s=>by
  have e:((t::V).getLast?.map fun t=>t.d).getD d=(V.getLast?.map fun t=>t.d).getD t.d:=by
   cases V with
   |nil=>rfl
   |cons x V=>rw[List.getLast?_cons_cons,uR (wo x V)];rfl
  rw[e,List.cons_append];show(if t.d≠d then t.st::cor t.d (V++[s])else cor t.d (V++[s]))=(if t.d≠d then t.st::cor t.d V else cor t.d V)++_;rw[kC V t.d s];by_cases z:t.d≠d
  ·rw[um z,um z,List.cons_append]
  ·rw[uo z,uo z]
theorem jx:∀(d:Dr)(W:List Sd),(cor d W).length<=W.length
 |_,[]=>uA _
 |d,s::W=>by have:=jx s.d W;unfold cor;split<;>simp<;>omega
theorem mH{α:Type}{xs:List α}{i:Nat}{v:α}(h:xs[i]?=some v):∃v',atI xs ((i:Int)-1)=some v'/\((xs.take i).getLast?.or xs.getLast?)=some v':=by
 have hi:=(ur.mp h).1;cases i with
 |zero=>
  have hn:xs≠[]:=fun z=>by rw[z]at hi;cases hi
  refine⟨xs.getLast hn,?_,?_⟩
  ·have e:=List.dropLast_concat_getLast hn;have:=kH xs.dropLast (xs.getLast hn);rw[e]at this;exact this
  ·rw[List.take_zero,uR hn];rfl
 |succ i=>
  have hi':i<xs.length:=by omega
  refine⟨xs[i],?_,?_⟩
  ·rw[show(((i+1:Nat):Int)-1)=((i:Nat):Int) by omega];exact ak (uq hi')
  ·rw[List.take_succ_eq_append_getElem hi',List.getLast?_concat];rfl
theorem de{α β:Type}{R:α->β->Prop}{xs:List α}{ys:List β}(p:Paired R xs ys){i:Nat}{v:α}(h:xs[i]?=some v):∃v' y y',atI xs ((i:Int)-1)=some v'/\ys[i]?=some y/\R v y/\((ys.take i).getLast?.or ys.getLast?)=some y'/\R v' y':=by obtain⟨y,hy,r⟩:=bg p h;obtain⟨v',a1,a2⟩:=mH h;obtain⟨y',b1,b2⟩:=mH hy;refine⟨v',y,y',a1,hy,r,b2,?_⟩;unfold atI at a1 b1;rw[uL p]at a1;obtain⟨j,e1,e2⟩:=Option.bind_eq_some_iff.mp a1;rw[e1]at b1;obtain⟨y2,f1,f2⟩:=bg p e2;have:some y2=some y':=f1.symm.trans b1;cases this;exact f2
theorem rk{W:List Sd}{i:Nat}{t:Sd}{d:Dr}(h:((W.take i).getLast?.or W.getLast?)=some t):((W.take i).getLast?.map fun s=>s.d).getD ((W.getLast?.map fun s=>s.d).getD d)=t.d:=by
 cases e:(W.take i).getLast? with
 |some x=>rw[e]at h;cases h;rfl
 |none=>rw[e]at h;rw[show W.getLast?=some t from h];rfl
theorem kq{K:Frag}{H:Hp}{b:PySem.Addr}{x y:Int}(h:SqT K H b [.int x,.int y]):IsD K H (cH [.inl x,.inl y]) (.ref b):=.tup h (.cons (.int _) (.cons (.int _) .nil))
theorem qv(d e:Dr):PyData.eqv (cH [.inl d.dx,.inl d.dy]) (cH [.inl e.dx,.inl e.dy])=decide (d=e):=by show PyData.eqvAll (([.inl d.dx,.inl d.dy]:List Key).map cJ) (([.inl e.dx,.inl e.dy]:List Key).map cJ)=_;rw[gx];cases d<;>cases e<;>decide
structure Kn(T:CT)(S:Sd->Prop):Prop where
 nd:(T.map (·.1)).Nodup
 sub:∀t∈T,∃s,t.1=aK s/\S s
 all:∀s,S s->∃t∈T,t.1=aK s
section
variable{T:CT}{S S':Sd->Prop}
theorem lG:Kn [] fun _=>False:=⟨.nil,fun _ z=>(vB z).elim,fun _ z=>z.elim⟩
theorem Kn.congr(h:Kn T S)(e:∀s,S s<->S' s):Kn T S':=⟨h.nd,fun t ht=>by obtain⟨s,a,b⟩:=h.sub t ht;exact⟨s,a,(e s).mp b⟩,fun s z=>h.all s ((e s).mpr z)⟩
theorem nW(T:CT)(c:Col)(b:Addr)(v:V):(cZ T c b v).map (·.1)=if(T.any fun t=>decide (t.1=c))=true then T.map (·.1)else T.map (·.1)++[c]:=by
 unfold cZ;split
 ·rw[vy];refine List.map_congr_left fun t _=>?_;show(if t.1=c then(t.1,t.2.1,v)else t).1=t.1;split<;>rfl
 ·rw[List.map_append];rfl
theorem lE(h:Kn T S)(s:Sd)(b:Addr)(v:V):Kn (cZ T (aK s) b v) fun t=>S t\/t=s:=by
 have e:=nW T (aK s) b v;have mem:∀c,(∃t∈cZ T (aK s) b v,t.1=c)<->((∃t∈T,t.1=c)\/c=aK s):=fun c=>by
  have a1:(∃t∈cZ T (aK s) b v,t.1=c)<->c∈(cZ T (aK s) b v).map (·.1):=by simp
  have a2:(∃t∈T,t.1=c)<->c∈T.map (·.1):=by simp
  rw[a1,a2,e];by_cases z:(T.any fun t=>decide (t.1=aK s))=true
  ·rw[um z];refine⟨.inl,fun y=>y.elim id fun y=>?_⟩;obtain⟨t,ht,et⟩:=List.any_eq_true.mp z;rw[y];exact uO.mpr ⟨t,ht,uW et⟩
  ·rw[uo z,uB,ux]
 refine⟨?_,fun t ht=>?_,fun t ht=>?_⟩
 ·rw[e];by_cases z:(T.any fun t=>decide (t.1=aK s))=true
  ·rw[um z];exact h.nd
  ·rw[uo z];refine v9.mpr ⟨h.nd,vZ _ _,fun x hx y hy xy=>z ?_⟩;obtain⟨t,ht,et⟩:=uO.mp hx;rw[ux.mp hy]at xy;exact List.any_eq_true.mpr ⟨t,ht,uD (et.trans xy)⟩
 ·rcases (mem t.1).mp ⟨t,ht,rfl⟩with⟨t',h',e'⟩|e'
  ·obtain⟨s',a,b⟩:=h.sub t' h';exact⟨s',e'.symm.trans a,.inl b⟩
  ·exact⟨s,e',.inr rfl⟩
 ·refine(mem (aK t)).mpr ?_;rcases ht with z|z
  ·exact .inl (h.all t z)
  ·exact .inr (by rw[z])
theorem Kn.at(h:Kn T S)(s:Sd):(L2.atT T (aK s)).isSome=true<->S s:=by
 unfold L2.atT;rw[Option.isSome_map,List.find?_isSome];constructor
 ·rintro⟨t,ht,e⟩;obtain⟨s',a,b⟩:=h.sub t ht;rw[uW e]at a;rw[eH a];exact b
 ·intro z;obtain⟨t,ht,e⟩:=h.all s z;exact⟨t,ht,uD e⟩
theorem Kn.list(h:Kn T S):∃L:List Sd,Paired (fun(t:Col×Addr×V) s=>t.1=aK s) T L/\L.Nodup/\∀s,s∈L<->S s:=by
 have:∀{T:CT},(∀t∈T,∃s,t.1=aK s)->∃L:List Sd,Paired (fun(t:Col×Addr×V) s=>t.1=aK s) T L/\T.map (·.1)=L.map aK:=by
  intro T
  induction T with
  |nil=>exact fun _=>⟨[],.nil,rfl⟩
  |cons t T ih=>intro hs;obtain⟨s,e⟩:=hs t (uy ..);obtain⟨L,p,el⟩:=ih fun u hu=>hs u (uv _ hu);exact⟨s::L,.cons e p,by rw[vi,vi,el,e]⟩
 obtain⟨L,p,e⟩:=this fun t ht=>(h.sub t ht).imp fun _ z=>z.1
 have inj:∀s,aK s∈L.map aK<->s∈L:=fun s=>⟨fun z=>by
  obtain⟨s',a,b⟩:=uO.mp z
  exact eH b▸a,vC⟩
 refine⟨L,p,?_,fun s=>?_⟩
 ·have nd:=h.nd;rw[e]at nd;exact(List.pairwise_map.mp nd).imp fun z y=>z (by rw[y])
 ·rw[<-inj,<-e];constructor
  ·intro z;obtain⟨t,ht,et⟩:=uO.mp z;obtain⟨s',a,b⟩:=h.sub t ht;rw[eH (et.symm.trans a)];exact b
  ·intro z;obtain⟨t,ht,et⟩:=h.all s z;exact uO.mpr ⟨t,ht,et⟩
theorem tq{kvs:CT}:∀{U:List Sd},kvs.map (·.1)=U.map aK->Kn (mkT kvs) (fun s=>s∈U):=by
 have gen:∀(kvs:CT)(U:List Sd)(T:CT)(S:Sd->Prop),Kn T S->kvs.map (·.1)=U.map aK->Kn (kvs.foldl (fun T x=>cZ T x.1 x.2.1 x.2.2) T) (fun s=>S s\/s∈U):=by
  intro kvs
  induction kvs with
  |nil=>
   intro U T S h e;cases U with
   |nil=>exact h.congr fun s=>by simp
   |cons=>cases e
  |cons x kvs ih=>
   intro U T S h e;cases U with
   |nil=>cases e
   |cons s U=>rw[vi,vi,List.cons.injEq]at e;rw[List.foldl_cons,e.1];refine(ih U _ _ (lE h s x.2.1 x.2.2) e.2).congr fun t=>?_;rw[uY,or_assoc]
 intro U e;exact(gen kvs U [] _ lG e).congr fun s=>by simp
end
section
variable{P:Program}{w:World}{K:Frag}{H H':Hp}{d b:Addr}{o o':Obj}{T:CT}{c:Col}{v:V}
theorem bY(s:ao H H')(h:cu P w K H d o T):cu P w K H' d o T:=⟨s _ _ h.1,h.2.1,h.2.2.1,fun t ht=>(h.2.2.2 t ht).tk s.tk⟩
theorem iR(h:cu P w K H d o T)(hb:dR K H b c)(ho:jG P w o' (cZ T c b v)):cu P w K (upd H d (cp d o')) d o' (cZ T c b v):=
 ⟨af,ho,h.2.2.1,mY (P:=fun t=>dR K (upd H d (cp d o')) t.2.1 t.1) (fun t ht=>(h.2.2.2 t ht).tk (TK.obj h.1)) (hb.tk (TK.obj h.1)) fun _ z _=>z⟩
theorem gu{vs:List V}{U:List Sd}(p:Paired (aN K H) vs U):∃zs:AS,vs=zs.map (fun z=>V.ref z.1)/\zs.map (·.2)=U/\∀z∈zs,cC K H z.1 z.2:=by
 induction p with
 |nil=>exact⟨[],rfl,rfl,fun _ z=>(vB z).elim⟩
 |cons a _ ih=>obtain⟨b,rfl,hb⟩:=a;obtain⟨zs,rfl,rfl,hz⟩:=ih;exact⟨(b,_)::zs,rfl,rfl,fun z hz'=>(uY.mp hz').elim (fun e=>e▸hb) (hz z)⟩
theorem gs:∀{zs:AS},(∀z∈zs,cC K H z.1 z.2)->Paired (aN K H) (zs.map (fun z=>V.ref z.1)) (zs.map (·.2))
 | [],_=>.nil
 |z::_,h=>.cons ⟨z.1,rfl,h z (uy ..)⟩ (gs fun y hy=>h y (uv _ hy))
end
end L2
namespace LO
open LT
structure LW(G:Gr)(W:List Sd)(s:Sd)(n:Nat):Prop where
 b:brd G s=true
 n0:0<n
 e:W=wlk G s n
 cl:itr G s n=s
 nd:W.Nodup
 least:∀t∈W,¬ri t.st s.st
noncomputable def d9(W:List Sd):Dr:=(W.getLast?.map fun s=>s.d).getD .e
noncomputable def aI(W:List Sd):List Pt:=cor (d9 W) W
section
variable{G:Gr}{W:List Sd}{s:Sd}{n:Nat}
theorem LW.is(h:LW G W s n):kJ G W:=⟨⟨s,n,h.b,h.n0,h.e,h.cl⟩,h.nd⟩
theorem LW.cons(h:LW G W s n):∃V,W=s::V:=by rw[h.e];obtain⟨m,rfl⟩:∃m,n=m+1:=⟨n-1,by have:=h.n0;omega⟩;unfold wlk;rw[List.range_succ_eq_map];exact⟨_,rfl⟩
theorem LW.last(h:LW G W s n):s.d≠d9 W:=by
 have e:=kL h.b h.n0 h.cl (h.e▸h.least);obtain⟨m,rfl⟩:∃m,n=m+1:=⟨n-1,by have:=h.n0;omega⟩;have:d9 W=(itr G s m).d:=by rw[h.e,fo,d9,List.getLast?_concat];rfl
 rw[this];exact e
theorem LW.head(h:LW G W s n):∃R,aI W=s.st::R:=by obtain⟨V,e⟩:=h.cons;have l:=h.last;unfold aI;generalize d9 W=d at l;rw[e];exact⟨cor s.d V,um l⟩
theorem LW.sum{A:Type}{op:A->A->A}{u:A}{f:Pt->Pt->A}(a:jH op u f)(h:LW G W s n):kR op u f (aI W)=cF op u f W:=by obtain⟨V,e⟩:=h.cons;have l:=h.last;have w:=lY h.b h.cl;rw[<-h.e]at w;unfold aI;generalize d9 W=d at l;rw[e]at w ⊢;exact nO a l w.1 w.2
theorem LW.dir(h:LW G W s n):s.d=.e\/s.d=.n:=by
 have m:nxt G s∈W:=h.is.cl s (by obtain⟨V,e⟩:=h.cons;rw[e];exact uy ..);have:=h.least _ m;rw[dz h.b]at this;cases z:s.d with
 |e=>exact .inl rfl
 |n=>exact .inr rfl
 |w=>exact(this (by left;show s.x+s.d.dx<s.x;rw[z];show s.x+ -1<s.x;omega)).elim
 |s=>exact(this (by right;exact⟨by show s.x+s.d.dx=s.x;rw[z];show s.x+0=s.x;omega,by show s.y+s.d.dy<s.y;rw[z];show s.y+ -1<s.y;omega⟩)).elim
end
theorem pZ{G:Gr}{s t:Sd}(hs:brd G s=true)(ht:brd G t=true)(ds:s.d=.e\/s.d=.n)(dt:t.d=.e\/t.d=.n)(e:s.st=t.st):s=t:=by
 obtain⟨x,y,d⟩:=s;obtain⟨x',y',d'⟩:=t;cases e;have a:=ba.mp hs;have b:=ba.mp ht;rcases ds with z|z
 ·rcases dt with z'|z'
  ·cases z;cases z';rfl
  ·cases z;cases z';have a1:at4 G x y .e=true:=a.1;have b2:at4 G x y .e=false:=b.2;rw[a1]at b2;cases b2
 ·rcases dt with z'|z'
  ·cases z;cases z';have b1:at4 G x y .e=true:=b.1;have a2:at4 G x y .e=false:=a.2;rw[b1]at a2;cases a2
  ·cases z;cases z';rfl
structure Rg(G:Gr)(U:List Sd)(i:Nat)(Ws:List (List Sd)):Prop where
 wk:∀W∈Ws,∃s n,LW G W s n
 nd:Ws.flatten.Nodup
 all:∀s∈U.take i,s∈Ws.flatten
 len:Ws.length<=i
section
variable{G:Gr}{U:List Sd}{i:Nat}{Ws:List (List Sd)}{s:Sd}{n:Nat}
theorem rd:Rg G U 0 []:=⟨fun _ z=>(vB z).elim,.nil,fun _ z=>by simp at z,uA _⟩
theorem Rg.skip(h:Rg G U i Ws)(hs:U[i]?=some s)(m:s∈Ws.flatten):Rg G U (i+1) Ws:=⟨h.wk,h.nd,fun t ht=>by
 rw[uM,hs,uS,uB,ux]at ht
 exact ht.elim (h.all t) fun z=>z▸m,Nat.le_succ_of_le h.len⟩
theorem Rg.cl(h:Rg G U i Ws):∀t,t∈Ws.flatten->nxt G t∈Ws.flatten:=fun t ht=>by obtain⟨W,hW,m⟩:=List.mem_flatten.mp ht;obtain⟨s,n,l⟩:=h.wk W hW;exact List.mem_flatten.mpr ⟨W,hW,l.is.cl t m⟩
theorem Rg.brd(h:Rg G U i Ws):∀t,t∈Ws.flatten->brd G t=true:=fun t ht=>by obtain⟨W,hW,m⟩:=List.mem_flatten.mp ht;obtain⟨s,n,l⟩:=h.wk W hW;exact l.is.brd t m
theorem Rg.add(h:Rg G U i Ws)(hU:∀t,t∈U<->LO.brd G t=true)(ok:∀t∈U,fE t)(so:U.Pairwise fun s t=>sdN s<=sdN t)(hs:U[i]?=some s)(m:s∉Ws.flatten)(n0:0<n)(e:itr G s n=s)(nd:(wlk G s n).Nodup):
  LW G (wlk G s n) s n/\Rg G U (i+1) (Ws++[wlk G s n]):=by
 have ms:s∈U:=uF hs;have out:=o9 h.cl e m;have bs:=(hU s).mp ms;have bt:∀t∈wlk G s n,LO.brd G t=true:=fun t ht=>by obtain⟨j,_,rfl⟩:=uO.mp ht;exact cg bs j
 have L:LW G (wlk G s n) s n:=⟨bs,n0,rfl,e,nd,fun t ht z=>by
  have mt:t∈U:=(hU t).mpr (bt t ht);obtain⟨j,hj⟩:=List.getElem?_of_mem mt;have ji:i<=j:=Nat.le_of_not_lt fun y=>out t ht (h.all t (uF (i:=j) (by rw[List.getElem?_take,um y];exact hj)));have le:sdN s<=sdN t:=by
   rcases Nat.lt_or_eq_of_le ji with y|y
   ·obtain⟨i1,i2⟩:=ur.mp hs;obtain⟨j1,j2⟩:=ur.mp hj;have:=vA.mp so i j i1 j1 y;rwa[i2,j2]at this
   ·rw[<-y,hs]at hj;cases hj;exact vX _
  obtain⟨a1,a2,a3,a4⟩:=ok s ms;obtain⟨b1,b2,b3,b4⟩:=ok t mt;unfold sdN at le;rcases z with z|⟨z1,z2⟩
  ·have z:t.x<s.x:=z;omega
  ·have z1:t.x=s.x:=z1;have z2:t.y<s.y:=z2
   omega⟩
 refine⟨L,fun W hW=>?_,?_,fun t ht=>?_,?_⟩
 ·rcases uB.mp hW with z|z
  ·exact h.wk W z
  ·rw[ux.mp z];exact⟨s,n,L⟩
 ·rw[List.flatten_append,List.flatten_singleton];exact v9.mpr ⟨h.nd,nd,fun x hx y hy z=>out y hy (z▸hx)⟩
 ·rw[List.flatten_append,List.flatten_singleton,uB];rw[uM,hs,uS,uB,ux]at ht;refine ht.elim (fun z=>.inl (h.all t z)) fun z=>.inr ?_;rw[z];exact uO.mpr ⟨0,vI.mpr n0,rfl⟩
 ·rw[uV];exact Nat.succ_le_succ h.len
noncomputable def g8(W:List Sd):Pt:=((aI W).head?).getD (0,0)
theorem LW.fst{W:List Sd}(h:LW G W s n):g8 W=s.st:=by obtain⟨R,e⟩:=h.head;unfold g8;rw[e];rfl
theorem Rg.unlike:∀{Ws:List (List Sd)},(∀W∈Ws,∃s n,LW G W s n)->Ws.flatten.Nodup->(Ws.map g8).Nodup
 | [],_,_=>.nil
 |W::Ws,hw,nd=>by rw[List.flatten_cons]at nd;obtain⟨_,n2,n3⟩:=v9.mp nd;refine vh.mpr ⟨fun z=>?_,Rg.unlike (fun V hV=>hw V (uv _ hV)) n2⟩;obtain⟨V,hV,e⟩:=uO.mp z;obtain⟨s,n,l⟩:=hw W (uy ..);obtain⟨t,m,k⟩:=hw V (uv _ hV);rw[l.fst,k.fst]at e;have:=pZ k.b l.b k.dir l.dir e;obtain⟨W1,e1⟩:=l.cons;obtain⟨V1,e2⟩:=k.cons;exact n3 s (by rw[e1];exact uy ..) s (List.mem_flatten.mpr ⟨V,hV,by rw[e2,this];exact uy ..⟩) rfl
end
theorem fJ{α β:Type}{f:α->β}{ys zs:List β}(p:ys.Perm zs):∀{l:List α},zs=l.map f->∃k:List α,k.Perm l/\ys=k.map f:=by
 induction p with
 |nil=>exact fun {l} e=>⟨l,.refl _,e⟩
 |cons a _ ih=>
  intro l e;cases l with
  |nil=>cases e
  |cons x l=>cases e;obtain⟨k,q,rfl⟩:=ih rfl;exact⟨x::k,q.cons _,rfl⟩
 |swap a b r=>
  intro l e
  match l,e with
  |x::y::l,e=>cases e;exact⟨y::x::l,.swap _ _ _,rfl⟩
 |trans _ _ h1 h2=>intro l e;obtain⟨k,q,e1⟩:=h2 e;obtain⟨k',q',e2⟩:=h1 e1;exact⟨k',q'.trans q,e2⟩
structure Rs(G:Gr)(Ws:List (List Sd)):Prop where
 wk:∀W∈Ws,∃s n,LW G W s n
 nd:Ws.flatten.Nodup
 all:∀s,s∈Ws.flatten<->brd G s=true
section
variable{G:Gr}{U:List Sd}{i:Nat}{Ws Vs:List (List Sd)}
theorem Rg.rs(r:Rg G U U.length Ws)(hU:∀t,t∈U<->LO.brd G t=true):Rs G Ws:=⟨r.wk,r.nd,fun s=>⟨r.brd s,fun z=>r.all s (by rw[vl];exact(hU s).mpr z)⟩⟩
theorem Rs.perm(r:Rs G Ws)(p:Vs.Perm Ws):Rs G Vs:=⟨fun W hW=>r.wk W (p.mem_iff.mp hW),p.flatten.nodup_iff.mpr r.nd,fun s=>(p.flatten.mem_iff).trans (r.all s)⟩
theorem Rs.sum{A:Type}{op:A->A->A}{u:A}{f:Pt->Pt->A}(a:jH op u f)(r:Rs G Ws):((Ws.map aI).map (kR op u f)).foldr op u=cF op u f Ws.flatten:=by
 rw[iy a];have wk:=r.wk;clear r
 induction Ws with
 |nil=>rfl
 |cons W Ws ih=>obtain⟨s,n,l⟩:=wk W (uy ..);show op (kR _ _ _ (aI W)) _=op _ _;rw[l.sum a,ih fun V hV=>wk V (uv _ hV)]
end
theorem jw:∀{W:List Sd}{d:Dr}{p:Pt},p∈cor d W->∃s∈W,p=s.st
 |s::W,d,p,h=>by
  have:p=s.st\/p∈cor s.d W:=by
   unfold cor at h;split at h
   ·exact uY.mp h
   ·exact .inr h
  rcases this with z|z
  ·exact⟨s,uy ..,z⟩
  ·obtain⟨t,ht,e⟩:=jw z;exact⟨t,uv _ ht,e⟩
end LO
namespace L2
open PySem PySem.Spec PyProof.Rows
open LO LT
def dQ(K:Frag)(H:Hp)(b:Addr)(R:List Pt):Prop:=∃xs,H b=some (.lst xs)/\Paired (PtE K H) xs R
def iu(K:Frag)(H:Hp)(v:V)(R:List Pt):Prop:=∃b,v=.ref b/\dQ K H b R
def FoE(lf:Addr)(K:Frag)(H:Hp)(v:V)(W:List Sd):Prop:=∃b,v=.ref b/\b≠lf/\dQ K H b (aI W)
section
variable{K:Frag}{H H':Hp}{lf b:Addr}{v:V}{W:List Sd}{R:List Pt}
theorem dQ.same(s:ao H H')(h:dQ K H b R):dQ K H' b R:=by obtain⟨xs,h1,h2⟩:=h;exact⟨xs,s _ _ h1,Paired.imp (fun _ _ z=>PtE.tk s.tk z) h2⟩
theorem iu.same(s:ao H H')(h:iu K H v R):iu K H' v R:=by obtain⟨b,rfl,h⟩:=h;exact⟨b,rfl,h.same s⟩
theorem FoE.same(s:ao H H')(h:FoE lf K H v W):FoE lf K H' v W:=by obtain⟨b,rfl,n,h⟩:=h;exact⟨b,rfl,n,h.same s⟩
theorem FoE.put{xs ys:List V}(hl:H lf=some (.lst xs))(h:FoE lf K H v W):FoE lf K (upd H lf (.lst ys)) v W:=by obtain⟨b,rfl,n,zs,h1,h2⟩:=h;exact⟨b,rfl,n,zs,by rw[ax n];exact h1,Paired.imp (fun _ _ z=>PtE.tk (TK.lst hl) z) h2⟩
theorem FoE.obj{d:Addr}{o o':Obj}(hd:H d=some (cp d o))(h:FoE lf K H v W):FoE lf K (upd H d (cp d o')) v W:=by obtain⟨b,rfl,n,zs,h1,h2⟩:=h;exact⟨b,rfl,n,zs,by rw[ax (fun z=>by rw[z,hd]at h1;cases h1)];exact h1,Paired.imp (fun _ _ z=>PtE.tk (TK.obj hd) z) h2⟩
theorem rV{vs:List V}{Ws:List (List Sd)}(p:Paired (FoE lf K H) vs Ws):∃tz:List (Addr×List Sd),vs=tz.map (fun z=>V.ref z.1)/\tz.map (·.2)=Ws/\∀z∈tz,dQ K H z.1 (aI z.2):=by
 induction p with
 |nil=>exact⟨[],rfl,rfl,fun _ z=>(vB z).elim⟩
 |cons a _ ih=>obtain⟨b,rfl,_,hb⟩:=a;obtain⟨tz,rfl,rfl,hz⟩:=ih;exact⟨(b,_)::tz,rfl,rfl,fun z hz'=>(uY.mp hz').elim (fun e=>e▸hb) (hz z)⟩
theorem nG:∀{tz:List (Addr×List Sd)},(∀z∈tz,dQ K H z.1 (aI z.2))->Paired (iu K H) (tz.map fun z=>V.ref z.1) ((tz.map (·.2)).map aI)
 | [],_=>.nil
 |z::_,h=>.cons ⟨z.1,rfl,h z (uy ..)⟩ (nG fun y hy=>h y (uv _ hy))
theorem Kn.len{T:CT}{S:Sd->Prop}{U:List Sd}(h:Kn T S)(hs:∀s,S s->s∈U):T.length<=U.length:=by obtain⟨L,p,nd,e⟩:=h.list;rw[uL p];exact LM.length_le_of_subset nd fun x hx=>hs x ((e x).mp hx)
end
end L2
namespace LO
section
variable{A:Type}{op:A->A->A}{u:A}{f:Pt->Pt->A}
theorem gK(as:∀a b c,op (op a b) c=op a (op b c))(lu:∀a,op u a=a)(ru:∀a,op a u=a)(q:Pt):∀(V:List Pt)(z:Pt),cM op u f z (V++[q])=op (cM op u f z V) (f (V.getLast?.getD z) q)
 | [],z=>by show op (f z q) u=op u (f z q);rw[ru,lu]
 |p::V,z=>by
  have e:(p::V).getLast?.getD z=V.getLast?.getD p:=by
   cases V with
   |nil=>rfl
   |cons x V=>rw[List.getLast?_cons_cons,uR (wo x V)];rfl
  show op (f z p) (cM op u f p (V++[q]))=op (op (f z p) (cM op u f p V)) _;rw[gK as lu ru q V p,as,e]
theorem pI{R:List Pt}{z:Pt}(h:R.getLast?=some z):kR op u f R=cM op u f z R:=by
 cases R with
 |nil=>cases h
 |cons c R=>rw[uR (wo c R)]at h;cases h;rfl
theorem mZ(as:∀a b c,op (op a b) c=op a (op b c))(lu:∀a,op u a=a)(ru:∀a,op a u=a){R:List Pt}{z q y:Pt}{i:Nat}(hz:R.getLast?=some z)(hq:R[i]?=some q)(hy:((R.take i).getLast?.or R.getLast?)=some y):
  cM op u f z (R.take (i+1))=op (cM op u f z (R.take i)) (f y q):=by
 rw[uM,hq,uS,gK as lu ru];congr 2;cases e:(R.take i).getLast? with
 |some x=>rw[e]at hy;cases hy;rfl
 |none=>rw[e,hz]at hy;cases hy;rfl
end
noncomputable def cro(a b:Pt):Int:=a.1*b.2-b.1*a.2
noncomputable def gn(R:List Pt):Int:=kR (·+·) 0 cro R
section
variable{A:Type}{op:A->A->A}{u:A}{f:Pt->Pt->A}
noncomputable def lstP(R:List Pt):Pt:=R.getLast?.getD (0,0)
theorem jR(R:List Pt):kR op u f R=cM op u f (lstP R) R:=by
 cases R with
 |nil=>rfl
 |cons c R=>have e:=uR (wo c R);unfold lstP;rw[pI e,e];rfl
theorem jW(as:∀a b c,op (op a b) c=op a (op b c))(lu:∀a,op u a=a)(ru:∀a,op a u=a){R:List Pt}{q y:Pt}{i:Nat}(hq:R[i]?=some q)(hy:((R.take i).getLast?.or R.getLast?)=some y):
  cM op u f (lstP R) (R.take (i+1))=op (cM op u f (lstP R) (R.take i)) (f y q):=by
 cases R with
 |nil=>cases hq
 |cons c R=>
  have e:=uR (wo c R);have:(c::R).getLast?=some (lstP (c::R)):=by unfold lstP;rw[e];rfl
  exact mZ as lu ru this hq hy
end
end LO
namespace L2
open PySem PySem.Spec PyProof.Rows
open LO LT
noncomputable def gJ(R:List Pt):PyData:=.list (R.map fun p=>cH [.inl p.1,.inl p.2])
theorem jU{K:Frag}{H:Hp}{xs:List V}{R:List Pt}(hI:Paired (PtE K H) xs R):eO K H (R.map fun p=>cH [.inl p.1,.inl p.2]) xs:=by
 induction hI with
 |nil=>exact .nil
 |cons a b ih=>obtain⟨t,rfl,h⟩:=a;exact .cons (kq h) (ih)
theorem dQ.isD{K:Frag}{H:Hp}{b:Addr}{R:List Pt}(h:dQ K H b R):IsD K H (gJ R) (.ref b):=by obtain⟨xs,h1,h2⟩:=h;exact .lst (SqL.of h1) (jU h2)
theorem d7(R:List Pt):(gJ R).canLay0=true:=by
 show PyData.canLayAll0 _=true
 induction R with
 |nil=>rfl
 |cons p R ih=>exact ih
theorem iF{K:Frag}{H:Hp}{xs:List V}{Rs:List (List Pt)}(hI:Paired (iu K H) xs Rs):eO K H (Rs.map gJ) xs:=by
 induction hI with
 |nil=>exact .nil
 |cons a b ih=>obtain⟨t,rfl,h⟩:=a;exact .cons h.isD (ih)
theorem fR(Rs:List (List Pt)):(PyData.list (Rs.map gJ)).canLay0=true:=by
 show PyData.canLayAll0 _=true
 induction Rs with
 |nil=>rfl
 |cons R Rs ih=>show((gJ R).canLay0&&PyData.canLayAll0 (Rs.map gJ))=true;rw[d7,ih];rfl
theorem jV(R:List Pt):(gJ R).depth<=3:=by
 show PyData.depthAll _+1<=3;have:PyData.depthAll (R.map fun p=>cH [.inl p.1,.inl p.2])<=1:=by
  induction R with
  |nil=>decide
  |cons p R ih=>show max (PyData.depth (cH [.inl p.1,.inl p.2])) (PyData.depthAll (R.map fun p=>cH [.inl p.1,.inl p.2]))<=1;have h2:PyData.depth (cH [.inl p.1,.inl p.2])=1:=rfl;omega
 omega
theorem mU(Rs:List (List Pt)):(PyData.list (Rs.map gJ)).depth<=50:=by
 show PyData.depthAll _+1<=50;have:PyData.depthAll (Rs.map gJ)<=3:=by
  induction Rs with
  |nil=>decide
  |cons R Rs ih=>show max (gJ R).depth (PyData.depthAll (Rs.map gJ))<=3;have:=jV R;omega
 omega
end L2
namespace LO
open LT
theorem ee:jH (·+·) 0 cro where
 as:=Int.add_assoc
 cm:=Int.add_comm
 un:=Int.zero_add
 z:=fun p=>by unfold cro;omega
 ln:=fun c d k=>by obtain⟨x,y⟩:=c;cases d<;>simp only[cro,Dr.dx,Dr.dy]<;>grind
theorem qA(s:Sd):cro s.rev.st s.rev.en= -cro s.st s.en:=by obtain⟨e1,e2,e3,e4⟩:=dY s;show s.rev.x*s.rev.ey-s.rev.ex*s.rev.y= -(s.x*s.ey-s.ex*s.y);rw[e1,e2,e3,e4];grind
theorem jL:∀V:List Sd,cF (·+·) 0 cro (V.map Sd.rev)= -cF (·+·) 0 cro V
 | []=>rfl
 |s::V=>by show cro s.rev.st s.rev.en+cF (·+·) 0 cro (V.map Sd.rev)= -(cro s.st s.en+cF (·+·) 0 cro V);rw[qA,jL V];omega
theorem rev_rev(s:Sd):s.rev.rev=s:=by obtain⟨x,y,d⟩:=s;cases d<;>simp[Sd.rev,Sd.ex,Sd.ey,Dr.lf,Dr.dx,Dr.dy]<;>omega
theorem nQ(x y:Int):cF (·+·) 0 cro (eN x y)=2:=by show cro (x,y+1) (x+0,y+1+ -1)+(cro (x,y) (x+1,y+0)+(cro (x+1,y) (x+1+0,y+1)+(cro (x+1,y+1) (x+1+ -1,y+1+0)+0)))=2;unfold cro;grind
theorem fI{α:Type}[DecidableEq α]:∀{l k:List α},l.Nodup->k.Nodup->(∀x,x∈l<->x∈k)->l.Perm k
 | [],k,_,_,h=>by
  cases k with
  |nil=>exact .refl _
  |cons a k=>exact absurd ((h a).mpr (uy ..)) (vB)
 |a::l,k,hl,hk,h=>by
  have ha:a∈k:=(h a).mp (uy ..);have p:=List.perm_cons_erase ha;refine List.Perm.trans ?_ p.symm;refine .cons a (fI (vh.mp hl).2 (hk.erase a) fun x=>?_);rw[hk.mem_erase_iff];constructor
  ·intro hx;exact⟨fun z=>(vh.mp hl).1 (z▸hx),(h x).mp (uv _ hx)⟩
  ·rintro⟨n,hx⟩;exact(uY.mp ((h x).mpr hx)).resolve_left n
theorem mL{w h g:Nat}(hw:0<w){U:List Sd}(nd:U.Nodup)(all:∀s,s∈U<->brd (grd w h g) s=true):cF (·+·) 0 cro U=2*((((List.range (w*h)).filter g.testBit).length:Nat):Int):=by
 obtain⟨C,eC⟩:∃C,C=(List.range (w*h)).filter g.testBit:=⟨_,rfl⟩;rw[<-eC];obtain⟨X,eX⟩:∃X:Nat->List Sd,X=fun k=>eN ((k % w:Nat):Int) ((k / w:Nat):Int):=⟨_,rfl⟩;have mC:∀k,k∈C<->k<w*h/\g.testBit k=true:=fun k=>by rw[eC,vT,vI]
 have ndC:C.Nodup:=by rw[eC];exact(List.nodup_range).filter _
 have mA:∀s,s∈C.flatMap X<->at4 (grd w h g) s.x s.y s.d=true:=fun s=>by rw[<-fV hw,List.mem_flatMap,eX];exact⟨fun⟨k,a,b⟩=>⟨k,((mC k).mp a).1,((mC k).mp a).2,b⟩,fun⟨k,a,b,c⟩=>⟨k,(mC k).mpr ⟨a,b⟩,c⟩⟩
 have cell:∀k j s,s∈X k->s∈X j->k=j:=fun k j s hk hj=>by
  rw[eX]at hk hj;have a:=eJ.mp hk;have b:=eJ.mp hj;have e1:k % w=j % w:=by have:=a.1.symm.trans b.1;omega
  have e2:k / w=j / w:=by have:=a.2.symm.trans b.2;omega
  rw[<-Nat.div_add_mod k w,<-Nat.div_add_mod j w,e1,e2]
 have ndA:(C.flatMap X).Nodup:=by
  have:∀D:List Nat,D.Nodup->(D.flatMap X).Nodup:=fun D hD=>by
   induction D with
   |nil=>exact .nil
   |cons k D ih=>rw[List.flatMap_cons];refine v9.mpr ⟨by rw[eX];exact kT _ _,ih (vh.mp hD).2,fun x hx y hy z=>?_⟩;obtain⟨j,hj,hy⟩:=List.mem_flatMap.mp hy;exact(vh.mp hD).1 (cell k j x hx (z▸hy)▸hj)
  exact this C ndC
 have sA:cF (·+·) 0 cro (C.flatMap X)=2*((C.length:Nat):Int):=by
  have:∀D:List Nat,cF (·+·) 0 cro (D.flatMap X)=2*((D.length:Nat):Int):=fun D=>by
   induction D with
   |nil=>rfl
   |cons k D ih=>rw[List.flatMap_cons,fq ee,ih,wm];have:cF (·+·) 0 cro (X k)=2:=(by rw[eX];exact nQ _ _);rw[this];omega
  exact this C
 obtain⟨V,eV⟩:∃V,V=(C.flatMap X).filter fun s=>at4 (grd w h g) s.rev.x s.rev.y s.rev.d:=⟨_,rfl⟩;have mV:∀s,s∈V<->at4 (grd w h g) s.x s.y s.d=true/\at4 (grd w h g) s.rev.x s.rev.y s.rev.d=true:=fun s=>by rw[eV,vT,mA]
 have ndV:V.Nodup:=by rw[eV];exact ndA.filter _
 have inj:∀s t:Sd,s.rev=t.rev->s=t:=fun s t e=>by rw[<-rev_rev s,e,rev_rev]
 have pV:(V.map Sd.rev).Perm V:=fI (List.pairwise_map.mpr (ndV.imp fun n e=>n (inj _ _ e))) ndV fun s=>by
  rw[uO];constructor
  ·rintro⟨t,ht,rfl⟩;have:=(mV t).mp ht;exact(mV _).mpr ⟨this.2,by rw[rev_rev];exact this.1⟩
  ·intro hs;have:=(mV s).mp hs;exact⟨s.rev,(mV _).mpr ⟨this.2,by rw[rev_rev];exact this.1⟩,rev_rev s⟩
 have zV:cF (·+·) 0 cro V=0:=by have a:=ix ee pV;rw[jL]at a;omega
 have pA:(C.flatMap X).Perm (U++V):=fI ndA (v9.mpr ⟨nd,ndV,fun x hx y hy z=>by
   have a:=(all x).mp hx;rw[jB,vo,Bool.not_eq_true']at a;have b:=((mV y).mp hy).2;rw[<-z,a.2]at b
   cases b⟩) fun s=>by
  rw[uB,mA,all,mV,jB];cases at4 (grd w h g) s.x s.y s.d<;>cases at4 (grd w h g) s.rev.x s.rev.y s.rev.d<;>simp
 have e:=ix ee pA;rw[fq ee,zV,sA]at e;omega
end LO
namespace LO
structure Run where
 c:Pt
 d:Dr
 n:Nat
noncomputable def Run.en(r:Run):Pt:=(r.c.1+r.n*r.d.dx,r.c.2+r.n*r.d.dy)
noncomputable def Run.sds(r:Run):List Sd:=(List.range r.n).map fun j:Nat=>⟨r.c.1+j*r.d.dx,r.c.2+j*r.d.dy,r.d⟩
noncomputable def rn:Pt->Dr->Nat->List Sd->List Run
 |c,d,n,[]=>[⟨c,d,n⟩]
 |c,d,n,s::W=>if s.d=d then rn c d (n+1) W else⟨c,d,n⟩::rn s.st s.d 1 W
theorem pJ(W:List Sd):∀(c:Pt)(d:Dr)(n:Nat),∃m rs,rn c d n W=⟨c,d,m⟩::rs/\n<=m:=by
 induction W with
 |nil=>exact fun c d n=>⟨n,[],rfl,uA _⟩
 |cons s W ih=>
  intro c d n;unfold rn;split
  ·obtain⟨m,rs,e,h⟩:=ih c d (n+1);exact⟨m,rs,e,by omega⟩
  ·exact⟨n,_,rfl,uA _⟩
theorem lN:∀(W:List Sd)(c:Pt)(d:Dr)(n:Nat),cor d W=(rn c d n W).tail.map (·.c)
 | [],c,d,n=>rfl
 |s::W,c,d,n=>by
  unfold cor rn;by_cases z:s.d=d
  ·rw[uo (fun y=>y z),um z,<-lN W c d (n+1),z]
  ·rw[um z,uo z,List.tail_cons];obtain⟨m,rs,e,_⟩:=pJ W s.st s.d 1;rw[lN W s.st s.d 1,e];rfl
theorem nN(c:Pt)(d:Dr)(n:Nat):(Run.mk c d (n+1)).sds=(Run.mk c d n).sds++[⟨c.1+n*d.dx,c.2+n*d.dy,d⟩]:=by unfold Run.sds;rw[List.range_succ,List.map_append];rfl
theorem i8:∀(W:List Sd)(c:Pt)(d:Dr)(n:Nat),Chn (Run.mk c d n).en W->(rn c d n W).flatMap Run.sds=(Run.mk c d n).sds++W
 | [],c,d,n,_=>by show(Run.mk c d n).sds++[]=_;rfl
 |s::W,c,d,n,h=>by
  cases h with
  |cons e h=>
   unfold rn;by_cases z:s.d=d
   ·rw[um z];have es:s=⟨c.1+n*d.dx,c.2+n*d.dy,d⟩:=by
     obtain⟨x,y,d'⟩:=s;cases z;have e1:x=c.1+n*d'.dx:=congrArg Prod.fst e;have e2:y=c.2+n*d'.dy:=congrArg Prod.snd e;rw[e1,e2]
    have en:s.en=(Run.mk c d (n+1)).en:=by rw[es];show(c.1+n*d.dx+d.dx,c.2+n*d.dy+d.dy)=(c.1+((n+1:Nat):Int)*d.dx,c.2+((n+1:Nat):Int)*d.dy);have a:((n+1:Nat):Int)*d.dx=n*d.dx+d.dx:=(by rw[we,Int.add_mul];omega);have b:((n+1:Nat):Int)*d.dy=n*d.dy+d.dy:=(by rw[we,Int.add_mul];omega);rw[a,b,Int.add_assoc,Int.add_assoc]
    rw[en]at h;rw[i8 W c d (n+1) h,nN,uJ,<-es];rfl
   ·rw[uo z,List.flatMap_cons];congr 1;have e1:(Run.mk s.st s.d 1).sds=[s]:=by
     show[(⟨s.x+((0:Nat):Int)*s.d.dx,s.y+((0:Nat):Int)*s.d.dy,s.d⟩:Sd)]=[s];rw[show((0:Nat):Int)*s.d.dx=0 by rw[Int.natCast_zero,Int.zero_mul],show((0:Nat):Int)*s.d.dy=0 by rw[Int.natCast_zero,Int.zero_mul],Int.add_zero,Int.add_zero]
    have en:s.en=(Run.mk s.st s.d 1).en:=by show(s.x+s.d.dx,s.y+s.d.dy)=(s.x+((1:Nat):Int)*s.d.dx,s.y+((1:Nat):Int)*s.d.dy);rw[show((1:Nat):Int)=1 from rfl,Int.one_mul,Int.one_mul]
    rw[en]at h;rw[i8 W s.st s.d 1 h,e1];rfl
structure Nx(G:Gr)(q r:Run):Prop where
 c:r.c=q.en
 d:r.d=q.d.lf\/r.d=q.d.rt
 one:r.d=q.d.rt->∀s t:Sd,brd G s=true->brd G t=true->s.st=r.c->t.st=r.c->s=t
inductive Adj(G:Gr):Run->List Run->Prop
 |nil {r:Run}:Adj G r []
 |cons {q r:Run} {rs:List Run}:Nx G q r->Adj G r rs->Adj G q (r::rs)
section
variable{G:Gr}
theorem tF{s:Sd}(h:brd G s=true):at4 G s.ex s.ey s.d.lf=true/\at4 G s.ex s.ey s.d.lf.lf=false:=by have b:=ba.mp h;exact⟨(mw G s).trans b.1,(mv G s).trans b.2⟩
theorem j7{s:Sd}(h:brd G s=true):(nxt G s).st=s.en/\((nxt G s).d=s.d\/(((nxt G s).d=s.d.lf\/(nxt G s).d=s.d.rt)/\((nxt G s).d=s.d.rt->∀t u:Sd,brd G t=true->brd G u=true->t.st=s.en->u.st=s.en->t=u))):=by
 have q:=tF h;rw[dz h];refine⟨rfl,?_⟩;by_cases a:at4 G s.ex s.ey s.d=false
 ·rw[um a];refine .inr ⟨.inl rfl,fun z=>?_⟩;have:s.d.lf≠s.d.rt:=by cases s.d<;>decide
  exact(this z).elim
 ·rw[uo a];by_cases b:at4 G s.ex s.ey s.d.rt=false
  ·rw[um b];exact .inl rfl
  ·rw[uo b];refine .inr ⟨.inr rfl,fun _=>?_⟩;have dir:∀t:Sd,brd G t=true->t.st=s.en->t.d=s.d.rt:=fun t ht e=>by
    have bt:=(ba.mp ht).2;have e1:t.x=s.ex:=congrArg Prod.fst e;have e2:t.y=s.ey:=congrArg Prod.snd e;rw[e1,e2]at bt;cases hd:s.d<;>cases ht':t.d<;>rw[hd]at a b q<;>rw[ht']at bt<;>simp only[Dr.rt,Dr.lf]at a b q bt ⊢ <;>first
     |exact(a bt).elim
     |exact(b bt).elim
     |(rw[q.1]at bt;exact Bool.noConfusion bt)
   intro t u ht hu et eu;have d1:=dir t ht et;have d2:=dir u hu eu;obtain⟨x,y,d⟩:=t;obtain⟨x',y',d'⟩:=u;have e1:x=x':=congrArg Prod.fst (et.trans eu.symm);have e2:y=y':=congrArg Prod.snd (et.trans eu.symm);cases d1.trans d2.symm;rw[e1,e2]
inductive Wk(G:Gr):Sd->List Sd->Prop
 |nil {s:Sd}:Wk G s []
 |cons {s:Sd} {W:List Sd}:Wk G (nxt G s) W->Wk G s (nxt G s::W)
theorem nE(s:Sd):∀(n k:Nat),Wk G (itr G s k) ((List.range n).map fun j=>itr G s (k+1+j))
 | 0,k=>.nil
 |n+1,k=>by
  rw[List.range_succ_eq_map,vi,vy];have:=nE s n (k+1);have e:((List.range n).map ((fun j=>itr G s (k+1+j)) ∘ Nat.succ))=(List.range n).map fun j=>itr G s (k+1+1+j):=List.map_congr_left fun j _=>by show itr G s (k+1+(j+1))=itr G s (k+1+1+j);congr 1;omega
  rw[e];exact Wk.cons this
theorem qu{c:Pt}{d:Dr}{n:Nat}{s:Sd}(e:s.st=(Run.mk c d n).en)(z:s.d=d):s.en=(Run.mk c d (n+1)).en:=by
 obtain⟨x,y,d'⟩:=s;cases z;have e1:x=c.1+n*d'.dx:=congrArg Prod.fst e;have e2:y=c.2+n*d'.dy:=congrArg Prod.snd e;show(x+d'.dx,y+d'.dy)=(c.1+((n+1:Nat):Int)*d'.dx,c.2+((n+1:Nat):Int)*d'.dy);have a:((n+1:Nat):Int)*d'.dx=n*d'.dx+d'.dx:=by rw[we,Int.add_mul];omega
 have b:((n+1:Nat):Int)*d'.dy=n*d'.dy+d'.dy:=by rw[we,Int.add_mul];omega
 rw[a,b,e1,e2,Int.add_assoc,Int.add_assoc]
theorem lK(s:Sd):s.en=(Run.mk s.st s.d 1).en:=by show(s.x+s.d.dx,s.y+s.d.dy)=(s.x+((1:Nat):Int)*s.d.dx,s.y+((1:Nat):Int)*s.d.dy);rw[show((1:Nat):Int)=1 from rfl,Int.one_mul,Int.one_mul]
theorem kU:∀{W:List Sd}{p:Sd}{c:Pt}{d:Dr}{n:Nat},brd G p=true->Wk G p W->p.d=d->p.en=(Run.mk c d n).en->0<n->
  ∃m rs,rn c d n W=⟨c,d,m⟩::rs/\Adj G ⟨c,d,m⟩ rs/\(∀r∈(⟨c,d,m⟩:Run)::rs,0<r.n)/\∃z l,(p::W).getLast?=some z/\((⟨c,d,m⟩:Run)::rs).getLast?=some l/\l.d=z.d/\l.en=z.en
 | [],p,c,d,n,hb,_,pd,pe,n0=>⟨n,[],rfl,.nil,fun r hr=>by rw[ux.mp hr];exact n0,p,⟨c,d,n⟩,rfl,rfl,pd.symm,pe.symm⟩
 |s::W,p,c,d,n,hb,h,pd,pe,n0=>by
  cases h with
  |cons h=>
   obtain⟨t1,t2⟩:=j7 hb;have bn:=mi hb;unfold rn;by_cases z:(nxt G p).d=d
   ·rw[um z];obtain⟨m,rs,e,a1,a2,zz,l,b1,b2,b3,b4⟩:=kU bn h z (qu (t1.trans pe) z) (Nat.succ_pos n);exact⟨m,rs,e,a1,a2,zz,l,by rw[List.getLast?_cons_cons];exact b1,b2,b3,b4⟩
   ·rw[uo z];obtain⟨m,rs,e,a1,a2,zz,l,b1,b2,b3,b4⟩:=kU bn h rfl (lK _) (Nat.succ_pos 0);have t3:=t2.resolve_left fun y=>z (y.trans pd);rw[pd]at t3;refine⟨n,_,rfl,?_,?_,zz,l,by rw[List.getLast?_cons_cons];exact b1,?_,b3,b4⟩
    ·rw[e];exact .cons ⟨t1.trans pe,t3.1,fun y s t hs ht es et=>t3.2 y s t hs ht (es.trans t1) (et.trans t1)⟩ a1
    ·intro r hr;rcases uY.mp hr with y|y
     ·rw[y];exact n0
     ·rw[e]at y;exact a2 r y
    ·rw[e,List.getLast?_cons_cons];exact b2
structure Rr(G:Gr)(W:List Sd)(rs:List Run):Prop where
 ring:aI W=rs.map (·.c)
 flat:rs.flatMap Run.sds=W
 pos:∀r∈rs,0<r.n
 ne:rs≠[]
 nx:∀i q r,rs[i]?=some q->rs[i+1]?=some r->Nx G q r
 cyc:∀q r,rs.getLast?=some q->rs[0]?=some r->Nx G q r
theorem oT:∀{rs:List Run}{r0:Run},Adj G r0 rs->∀(i:Nat)(q r:Run),(r0::rs)[i]?=some q->(r0::rs)[i+1]?=some r->Nx G q r
 | [],_,_,i,q,r,_,h2=>by simp at h2
 |r1::rs,r0,.cons n a,i,q,r,h1,h2=>by
  cases i with
  |zero=>cases h1;cases h2;exact n
  |succ i=>exact oT a i q r h1 h2
theorem LW.runs{W:List Sd}{s:Sd}{n:Nat}(h:LW G W s n):∃rs,Rr G W rs:=by
 obtain⟨m,rfl⟩:∃m,n=m+1:=⟨n-1,by have:=h.n0;omega⟩;obtain⟨V,eV⟩:∃V,V=(List.range m).map fun j=>itr G s (0+1+j):=⟨_,rfl⟩;have eW:W=s::V:=by rw[h.e,eV];unfold wlk;rw[List.range_succ_eq_map,vi,vy];congr 1;exact List.map_congr_left fun j _=>by show itr G s (j+1)=itr G s (0+1+j);congr 1;omega
 have wk:Wk G s V:=eV▸nE s m 0;obtain⟨k,rs,e,a,ps,z,l,b1,b2,b3,b4⟩:=kU h.b wk rfl (lK s) (Nat.succ_pos 0);have ch:=(lY h.b h.cl).1;rw[<-h.e,eW]at ch;have lz:itr G s m=z:=by
  have:W.getLast?=some (itr G s m):=by rw[h.e,fo,List.getLast?_concat]
  rw[eW,b1]at this;exact(vJ this).symm
 have bz:brd G z=true:=lz▸cg h.b m;have nz:nxt G z=s:=by rw[<-lz];exact h.cl
 have ld:d9 W=z.d:=by unfold d9;rw[eW,b1];rfl
 refine⟨⟨s.st,s.d,k⟩::rs,?_,?_,ps,wo _ _,oT a,fun q r hq hr=>?_⟩
 ·have l1:=h.last;unfold aI;generalize d9 W=d at l1;rw[eW];have c1:=lN V s.st s.d 1;rw[e]at c1;show(if s.d≠d then s.st::cor s.d V else cor s.d V)=_;rw[um l1,c1];rfl
 ·rw[<-e];cases ch with
  |cons _ ch=>
   rw[lK s]at ch;rw[i8 V s.st s.d 1 ch,eW];have e1:(Run.mk s.st s.d 1).sds=[s]:=by show[(⟨s.x+((0:Nat):Int)*s.d.dx,s.y+((0:Nat):Int)*s.d.dy,s.d⟩:Sd)]=[s];rw[show((0:Nat):Int)*s.d.dx=0 by rw[Int.natCast_zero,Int.zero_mul],show((0:Nat):Int)*s.d.dy=0 by rw[Int.natCast_zero,Int.zero_mul],Int.add_zero,Int.add_zero]
   rw[e1];rfl
 ·rw[b2]at hq;cases hq;cases hr;obtain⟨t1,t2⟩:=j7 bz;rw[nz]at t1 t2;have l1:=h.last;rw[ld]at l1;have t3:=t2.resolve_left l1;refine⟨t1.trans b4.symm,?_,?_⟩
  ·rw[b3];exact t3.1
  ·rw[b3];exact fun y s' t' hs ht es et=>t3.2 y s' t' hs ht (es.trans t1) (et.trans t1)
theorem Rr.prev{W:List Sd}{rs:List Run}(h:Rr G W rs){i:Nat}{r:Run}(hr:rs[i]?=some r):∃q,rs[(i+rs.length-1) % rs.length]?=some q/\Nx G q r:=by
 have hi:=(ur.mp hr).1;cases i with
 |zero=>refine⟨rs.getLast h.ne,?_,h.cyc _ _ (uR h.ne) hr⟩;rw[Nat.zero_add,vV (by omega),<-List.getLast?_eq_getElem?,uR h.ne]
 |succ i=>
  have hi':i<rs.length:=by omega
  refine⟨rs[i],?_,h.nx i _ _ (uq hi') hr⟩;rw[show i+1+rs.length-1=i+rs.length by omega,Nat.add_mod_right,vV hi'];exact uq hi'
theorem mf(d:Dr):d≠d.lf/\d≠d.rt:=by cases d<;>exact⟨by decide,by decide⟩
theorem Rr.four{W:List Sd}{rs:List Run}(h:Rr G W rs):4<=rs.length:=by
 match rs,h with
 | [],h=>exact(h.ne rfl).elim
 | [r0],h=>
  have c:=h.cyc r0 r0 rfl rfl;rcases c.d with z|z
  ·exact((mf r0.d).1 z).elim
  ·exact((mf r0.d).2 z).elim
 | [r0,r1],h=>have a:=h.nx 0 r0 r1 rfl rfl;have b:=h.cyc r1 r0 rfl rfl;have p0:=h.pos r0 (by simp);have p1:=h.pos r1 (by simp);exfalso;have e1:r1.c.1=r0.c.1+r0.n*r0.d.dx:=congrArg Prod.fst a.c;have e2:r1.c.2=r0.c.2+r0.n*r0.d.dy:=congrArg Prod.snd a.c;have f1:r0.c.1=r1.c.1+r1.n*r1.d.dx:=congrArg Prod.fst b.c;have f2:r0.c.2=r1.c.2+r1.n*r1.d.dy:=congrArg Prod.snd b.c;have ad:=a.d;cases h0:r0.d<;>rw[h0]at ad e1 e2<;>(rcases ad with z|z)<;>rw[z]at f1 f2<;>simp only[Dr.dx,Dr.dy,Dr.lf,Dr.rt]at e1 e2 f1 f2<;>omega
 | [r0,r1,r2],h=>have a:=(h.nx 0 r0 r1 rfl rfl).d;have b:=(h.nx 1 r1 r2 rfl rfl).d;have c:=(h.cyc r2 r0 rfl rfl).d;exfalso;cases h0:r0.d<;>rw[h0]at a c<;>(rcases a with z|z)<;>rw[z]at b<;>(rcases b with y|y)<;>rw[y]at c<;>simp[Dr.lf,Dr.rt]at c
 |_::_::_::_::_,_=>simp
theorem Nx.far{q r:Run}(h:Nx G q r)(n0:0<q.n):decide (q.c.1=r.c.1)≠decide (q.c.2=r.c.2):=by have e1:r.c.1=q.c.1+q.n*q.d.dx:=congrArg Prod.fst h.c;have e2:r.c.2=q.c.2+q.n*q.d.dy:=congrArg Prod.snd h.c;intro z;have z':=decide_eq_decide.mp z;cases hd:q.d<;>rw[hd]at e1 e2<;>simp only[Dr.dx,Dr.dy]at e1 e2<;>omega
noncomputable def sgn(a b:Int):Int:=(if b>a then 1 else 0)-(if b<a then 1 else 0)
theorem Nx.head{q r:Run}(h:Nx G q r)(n0:0<q.n):sgn q.c.1 r.c.1=q.d.dx/\sgn q.c.2 r.c.2=q.d.dy:=by have e1:r.c.1=q.c.1+q.n*q.d.dx:=congrArg Prod.fst h.c;have e2:r.c.2=q.c.2+q.n*q.d.dy:=congrArg Prod.snd h.c;unfold sgn;cases hd:q.d<;>rw[hd]at e1 e2<;>simp only[Dr.dx,Dr.dy]at e1 e2 ⊢ <;>constructor<;>(split<;>split<;>omega)
end
end LO
namespace L2
open PySem PySem.Spec PyProof.Rows
section
variable{X:Cx}
def pK(K:Frag):V->List V->Hp->VK->Prop:=fun x vs H Q=>∃l xs v d ds,x=.ref l/\vs=[v]/\H l=some (.lst xs)/\eO K H ds xs/\IsD K H d v/\d.canLay0=true/\PyData.canLayAll0 ds=true/\d.depth<=50/\Q (.int ((ds.countP fun e=>PyData.eqv e d:Nat):Int)) H
theorem oq(hu:X.A.units+64<cLine):MtM X "list.count" (pK X.K):=by
 intro pins s σ H x vs v us Q I rx rv h;obtain⟨l,xs,v',d,ds,rfl,rfl,hH,hds,hd,c1,c2,hdp,q⟩:=h;cases rx;obtain⟨u,rfl,ru⟩:=rv.one;obtain⟨z,its,n,r,hl,e⟩:=I.lstM hH;obtain⟨as,ra⟩:=eO.reads I hds r;obtain⟨bs,rb⟩:=IsD.reads I hd ru;have hm:=Nat.min_le_right (PyData.depthAll ds) d.depth;have mp:=SeqAt.readsAll_map ds its as c2 ra;refine call_meets F.slot_list_count ⟨_,e,rfl⟩ F.entry_list_count (F.args_list_count_2 _ _)
  (SeqAt.list_countAt l its.toArray n none #[] u (fun y=>PyData.eqv (SeqAt.readOf s.heap y) d)) ⟨e,?_,?_⟩
 ·exact SeqAt.items_eqAt (vs:=its.toArray) (by simpa using ra) rb c2 c1 (by omega)
 ·have ec:(its.toArray.toList.countP fun y=>PyData.eqv (SeqAt.readOf s.heap y) d)=ds.countP fun e=>PyData.eqv e d:=by
   rw[<-mp,List.countP_map];rfl
  refine⟨.int ((ds.countP fun e=>PyData.eqv e d:Nat):Int),H,I.tok _,⟨s.toks,?_⟩,q⟩;rw[ec]
end
end L2
namespace LT
open PySem PySem.Spec PyProof.Rows L2
section
variable{prog:Program}{w:World}{A:Around}
structure fh(zs:AP)(j:Nat)(b:Addr×(Int×Int)):Prop where
 mem:b∈zs
 le:∀y∈zs.take j,ltP y.2 b.2=false
theorem rJ{p q r:Int×Int}(h1:ltP p q=true)(h2:ltP r q=false):ltP r p=false:=by unfold ltP at*;simp only[Bool.or_eq_true,vo,uH,Bool.or_eq_false_iff,Bool.and_eq_false_iff,decide_eq_false_iff_not]at*;omega
theorem ki(p:Int×Int):ltP p p=false:=by unfold ltP;simp
theorem fh.step{zs:AP}{j:Nat}{b z:Addr×(Int×Int)}(h:fh zs j b)(hz:zs[j]?=some z):fh zs (j+1) (if ltP z.2 b.2=true then z else b):=by
 have mz:=uF hz;by_cases c:ltP z.2 b.2=true
 ·rw[um c];refine⟨mz,fun y hy=>?_⟩;rw[uM,hz,uS,uB,ux]at hy;rcases hy with hy|rfl
  ·exact rJ c (h.le y hy)
  ·exact ki _
 ·rw[uo c];refine⟨h.mem,fun y hy=>?_⟩;rw[uM,hz,uS,uB,ux]at hy;rcases hy with hy|rfl
  ·exact h.le y hy
  ·simpa using c
end
end LT
namespace LO
open LT
theorem pG{s t:Sd}(hs:fE s)(ht:fE t)(e:sdN s=sdN t):s=t:=by obtain⟨a1,a2,a3,a4⟩:=hs;obtain⟨b1,b2,b3,b4⟩:=ht;unfold sdN at e;exact kO (by omega) (by omega) (by omega) (by omega)
theorem gE{U V:List Sd}(nU:U.Nodup)(nV:V.Nodup)(mem:∀s,s∈U<->s∈V)(ok:∀s∈U,fE s)(sU:U.Pairwise fun s t=>sdN s<=sdN t)(sV:V.Pairwise fun s t=>sdN s<=sdN t):U=V:=by refine List.Perm.eq_of_pairwise (le:=fun s t=>sdN s<=sdN t) (fun a b ha hb h1 h2=>?_) sU sV (fI nU nV mem);exact pG (ok a ha) (ok b ((mem b).mpr hb)) (by omega)
noncomputable def bH(x y:Int):List Sd:=[⟨x,y,.e⟩,⟨x+1,y,.n⟩,⟨x+1,y+1,.w⟩,⟨x,y+1,.s⟩]
theorem fS(x y:Int):(bH x y).Perm (eN x y):=by
 refine fI ?_ (kT x y) fun s=>?_
 ·unfold bH;simp[vh]
 ·unfold bH eN;simp only[uY,vB,or_false];constructor
  ·rintro(h|h|h|h)
   ·exact .inr (.inl h)
   ·exact .inr (.inr (.inl h))
   ·exact .inr (.inr (.inr h))
   ·exact .inl h
  ·rintro(h|h|h|h)
   ·exact .inr (.inr (.inr h))
   ·exact .inl h
   ·exact .inr (.inl h)
   ·exact .inr (.inr (.inl h))
theorem ua(G:Gr)(x y:Int)(h:G x y=true):brd G ⟨x,y,.e⟩= !G x (y-1)/\brd G ⟨x+1,y,.n⟩= !G (x+1) y/\brd G ⟨x+1,y+1,.w⟩= !G x (y+1)/\brd G ⟨x,y+1,.s⟩= !G (x-1) y:=by
 refine⟨?_,?_,?_,?_⟩
 ·show(G x y&& !G x (y-1))=_;rw[h,Bool.true_and]
 ·show(G (x+1-1) y&& !G (x+1) y)=_;rw[show x+1-1=x by omega,h,Bool.true_and]
 ·show(G (x+1-1) (y+1-1)&& !G (x+1-1) (y+1))=_;rw[show x+1-1=x by omega,show y+1-1=y by omega,h,Bool.true_and]
 ·show(G x (y+1-1)&& !G (x-1) (y+1-1))=_;rw[show y+1-1=y by omega,h,Bool.true_and]
noncomputable def FL(w h g:Nat)(n:Nat):List Sd:=(List.range n).flatMap fun k=>if g.testBit k=true then(bH ((k % w:Nat):Int) ((k / w:Nat):Int)).filter (brd (grd w h g))else[]
theorem oV{w h g:Nat}(hw:0<w)(s:Sd):s∈FL w h g (w*h)<->brd (grd w h g) s=true:=by
 unfold FL;rw[List.mem_flatMap];constructor
 ·rintro⟨k,_,hs⟩;by_cases c:g.testBit k=true
  ·rw[um c]at hs;exact(vT.mp hs).2
  ·rw[uo c]at hs;cases hs
 ·intro hb;obtain⟨k,hk,ht,hm⟩:=(fV hw).mpr (ba.mp hb).1;refine⟨k,vI.mpr hk,?_⟩;rw[um ht];exact vT.mpr ⟨(fS _ _).mem_iff.mpr hm,hb⟩
theorem qQ{w h g:Nat}:∀n,(FL w h g n).Nodup/\∀s∈FL w h g n,∃k<n,s∈eN ((k % w:Nat):Int) ((k / w:Nat):Int)
 | 0=>⟨.nil,fun _ z=>(vB z).elim⟩
 |n+1=>by
  obtain⟨h1,h2⟩:=qQ (w:=w) (h:=h) (g:=g) n;have e:FL w h g (n+1)=FL w h g n++(if g.testBit n=true then(bH ((n % w:Nat):Int) ((n / w:Nat):Int)).filter (brd (grd w h g))else[]):=by unfold FL;rw[List.range_succ,List.flatMap_append];simp
  have m:∀s∈(if g.testBit n=true then(bH ((n % w:Nat):Int) ((n / w:Nat):Int)).filter (brd (grd w h g))else[]),s∈eN ((n % w:Nat):Int) ((n / w:Nat):Int):=fun s hs=>by
   by_cases c:g.testBit n=true
   ·rw[um c]at hs;exact(fS _ _).mem_iff.mp (vT.mp hs).1
   ·rw[uo c]at hs;cases hs
  rw[e];refine⟨v9.mpr ⟨h1,?_,fun x hx y hy z=>?_⟩,fun s hs=>?_⟩
  ·by_cases c:g.testBit n=true
   ·rw[um c];exact(((fS _ _).nodup_iff).mpr (kT _ _)).filter _
   ·rw[uo c];exact .nil
  ·obtain⟨k,hk,hm⟩:=h2 x hx;have a:=eJ.mp hm;have b:=eJ.mp (m x (z▸hy));have e1:k % w=n % w:=(by have:=a.1.symm.trans b.1;omega);have e2:k / w=n / w:=(by have:=a.2.symm.trans b.2;omega);have:k=n:=(by rw[<-Nat.div_add_mod k w,<-Nat.div_add_mod n w,e1,e2]);omega
  ·rcases uB.mp hs with z|z
   ·obtain⟨k,hk,hm⟩:=h2 s z;exact⟨k,by omega,hm⟩
   ·exact⟨n,by omega,m s z⟩
end LO
namespace LT
open PySem PySem.Spec PyProof PyProof.Rows L2
theorem mnn:(toString "min"++toString ".loop":String)="min.loop":=by decide
section
variable{prog:Program}{w:World}{A:Around}{R:Result->Shared->Prop}{I S l:Addr}{zs:AP}
theorem Is2.kp{h h':Heap}{a:Addr}{p:Int×Int}(i:Is2 h a p)(k:∀o,h.get? a=some o->h'.get? a=some o):Is2 h' a p:=by obtain⟨o,n,t,u,h1,h2,h3⟩:=i;exact⟨o,n,t,u,k _ h1,h2,h3⟩
theorem jK{i:Nat}{v:Value}(h:(aA zs).toArray[i]?=some v):∃z,zs[i]?=some z/\v=.ref z.1:=by rw[List.getElem?_toArray,aA,uU,vN]at h;obtain⟨z,h1,h2⟩:=h;exact⟨z,h1,h2.symm⟩
theorem sX(W:Walks prog w A.in1 I [I,l] [I] (aA zs).toArray.size (fun i v=>(aA zs).toArray[i]?=some v) (fun i h=>h.IsListIter I l i/\h.IsList l (aA zs).toArray))(hu:A.units+1<cLine)(out:S∉[I,l])(nI:∀z∈zs,z.1≠I)(nS:∀z∈zs,z.1≠S)(k:Nat):
  ∀{j:Nat}{s:Shared}{b:Addr×(Int×Int)}{c:Nat},j+1+k=zs.length->(s.heap.IsListIter I l (j+1)/\s.heap.IsList l (aA zs).toArray)->(∀z∈zs,Is2 s.heap z.1 z.2)->fh zs (j+1) b->s.heap.get? S=some (kF #[.ref b.1,.ref b.1] c)->
  (∀b h' tk,fh zs zs.length b->(∀a o,a∉[I]->a≠S->s.heap.get? a=some o->h'.get? a=some o)->R (.ok (.ret (.ref b.1))) {s with heap:=h',toks:=tk})->
  codeAny (model prog w) A (.builtin "min.loop" ⟨[.ref I,.none,.ref S],[]⟩) R s:=by
 have outw:S∉[I]:=fun z=>out (W.sub _ z);have sz:(aA zs).toArray.size=zs.length:=by rw[uC,aA,uj]
 induction k with
 |zero=>intro j s b c e st hp pb hS fin;have e':j+1=zs.length:=e;refine codeAny_builtin F.entry_min_loop ?_;rw[vM F.plain_min_loop _];refine uf (wpAny_seqItems hS rfl ?_);refine uf (wpAny_tryCatch (W.done s _ _ (by rw[sz,<-e'];exact st) fun h' tk kept=>?_));have hS2:=kept S _ outw hS;refine uf ?_;exact wpAny_updateSeq hS2 rfl (uf (wpAny_letGo (ug (fin b _ tk (by rw[<-e'];exact pb) fun a o h1 h2 h3=>(vp _ _ (Ne.symm h2)).trans (kept a o h1 h3)))))
 |succ k ih=>
  intro j s b c e st hp pb hS fin;refine codeAny_builtin F.entry_min_loop ?_;rw[vM F.plain_min_loop _];refine uf (wpAny_seqItems hS rfl ?_);refine uf (wpAny_tryCatch (W.item (j+1) s _ _ (by rw[sz];omega) st fun v h' tk pv st2 kept=>?_));have hS2:=kept S _ outw hS;obtain⟨z,hz,rfl⟩:=jK pv;have mz:=uF hz;have hp2:∀z∈zs,Is2 h' z.1 z.2:=fun z mz=>(hp z mz).kp fun o e=>kept _ _ (fun y=>nI z mz (ux.mp y)) e;have st':=pb.step hz;refine uf (ug ?_);refine uf (wpAny_tryCatch (wpAny_holding (uf (lC (A:=A.in1) hu (hp2 z mz) (hp2 b pb.mem) (uf (wpAny_holding (vP (uf (wpAny_letGo (ug ?_))))))))));by_cases hb:ltP z.2 b.2=true
  ·rw[um hb]at st';rw[hb,um rfl];refine uf ?_;refine wpAny_updateSeq hS2 rfl (uf (wpAny_letGo ?_));rw[mnn];exact ug ⟨plainId_quiet F.plain_min_loop _,ih (by omega) (W.frame _ _ _ st2 fun a ha o q=>(vp _ _ (fun z:S=a=>out (z▸ha))).trans q) (fun y my=>(hp2 y my).kp fun o q=>(vp _ _ (fun z=>nS y my z.symm)).trans q) st' (Heap.get?_update_self _ hS2 rfl) fun v2 h2 t2 p2 k2=>fin v2 h2 t2 p2 fun a o z1 z2 z3=>k2 a o z1 z2 ((vp _ _ (Ne.symm z2)).trans (kept a o z1 z3))⟩
  ·rw[uo hb]at st';rw[Bool.eq_false_iff.mpr hb,uo (by decide)];refine uf (wpAny_letGo ?_);rw[mnn];exact ug ⟨plainId_quiet F.plain_min_loop _,ih (by omega) st2 hp2 st' hS2 fun v2 h2 t2 p2 k2=>fin v2 h2 t2 p2 fun a o z1 z2 z3=>k2 a o z1 z2 (kept a o z1 z3)⟩
theorem rE{s:Shared}{E:Value->Shared->Prop}{Q:Value->Shared->Prop}(hh:A.handled=none)(hu:A.units+1<cLine)(hl:s.heap.IsList l (aA zs).toArray)(hp:∀z∈zs,Is2 s.heap z.1 z.2)(ne:0<zs.length)
  (q:∀b h' tk,fh zs zs.length b->(∀a o,s.heap.get? a=some o->h'.get? a=some o)->Q (.ref b.1) {s with heap:=h',toks:=tk}):
  wpAny (model prog w) A (call (.builtin "min") [.ref l]) Q E s:=by
 refine call_function_tree F.kind_min F.plain_min F.entry_min (F.args_min1 _) ?_;show wpAny _ A.in1 (Builtin.Builtins.bindParams "min" ["key","default"] 0 ⟨[],[]⟩>>= _) _ _ s;refine uf (wpAny_of_eq (show Builtin.Builtins.bindParams "min" ["key","default"] 0 ⟨[],[]⟩=pure [none,none]from rfl) (uf (ug (uf (Flt.iter_list_ hl fun s2 e2 st lt hlI=>?_)))));have sz:(aA zs).toArray.size=zs.length:=by rw[uC,aA,uj]
 have W:=Walks.list (prog:=prog) (w:=w) (A:=A.in1) hh s.heap.objs.size l hlI (aA zs).toArray;have k02:∀a o,s.heap.get? a=some o->s2.heap.get? a=some o:=fun a o e=>by rw[e2];exact uh _ e
 have nI:∀z∈zs,z.1≠s.heap.objs.size:=fun z mz e=>by obtain⟨o,_,_,_,h1,_⟩:=hp z mz;exact absurd (e▸uw h1) (vR _)
 have nI2:∀z∈zs,z.1≠s2.heap.objs.size:=fun z mz e=>by obtain⟨o,_,_,_,h1,_⟩:=hp z mz;exact absurd (e▸uw (k02 _ _ h1)) (vR _)
 have hp2:∀z∈zs,Is2 s2.heap z.1 z.2:=fun z mz=>(hp z mz).kp fun o e=>k02 _ _ e;have olds:∀{h':Heap},(∀a o,a∉[s.heap.objs.size]->s2.heap.get? a=some o->h'.get? a=some o)->∀a o,s.heap.get? a=some o->h'.get? a=some o:=fun k a o e=>k a o (fun m=>absurd ((ux.mp m)▸uw e) (vR _)) (k02 _ _ e);have q':∀b h' tk,fh zs zs.length b->(∀a o,a∉[s.heap.objs.size]->s2.heap.get? a=some o->h'.get? a=some o)->Q (.ref b.1) {s2 with heap:=h',toks:=tk}:=fun b h' tk a k=>by have:=q b h' tk a (olds k);rw[e2];exact this
 clear e2;refine uf (v8 ?_);have out:s2.heap.objs.size∉[s.heap.objs.size,l]:=fun z=>vR _ (lt _ z);have outw:s2.heap.objs.size∉[s.heap.objs.size]:=fun z=>out (W.sub _ z);have st1:=W.frame 0 _ (s2.heap.push (kF #[] 0)) st fun b _ o e=>uh _ e;have hS:(s2.heap.push (kF #[] 0)).get? s2.heap.objs.size=some (kF #[] 0):=uK _ rfl;have hp3:∀z∈zs,Is2 (s2.heap.push (kF #[] 0)) z.1 z.2:=fun z mz=>(hp2 z mz).kp fun o e=>uh _ e;rw[mnn];refine ug ⟨plainId_quiet F.plain_min_loop _,codeAny_builtin F.entry_min_loop ?_⟩;rw[vM F.plain_min_loop _];refine uf (wpAny_seqItems hS rfl ?_);refine uf (wpAny_tryCatch (W.item 0 _ _ _ (by rw[sz];exact ne) st1 fun v h' tk pv st2 kept=>?_));have hS2:=kept _ _ outw hS;obtain⟨z,hz,rfl⟩:=jK pv;have mz:=uF hz;have hp4:∀z∈zs,Is2 h' z.1 z.2:=fun z mz=>(hp3 z mz).kp fun o e=>kept _ _ (fun y=>nI z mz (ux.mp y)) e;refine uf (ug (uf ?_));refine wpAny_updateSeq hS2 rfl ?_;rw[mnn];refine ug ⟨plainId_quiet F.plain_min_loop _,sX W hu out nI nI2 (zs.length-1) (j:=0) (b:=z) (by omega) (W.frame _ _ _ st2 fun a ha o q=>(vp _ _ (fun z:s2.heap.objs.size=a=>out (z▸ha))).trans q) (fun y my=>(hp4 y my).kp fun o q=>(vp _ _ (fun z=>nI2 y my z.symm)).trans q) ⟨mz,fun y hy=>?_⟩ (Heap.get?_update_self _ hS2 rfl) fun v2 h2 t2 p2 k2=>q' v2 h2 t2 p2 fun a o z1 z3=>?_⟩
 ·rw[uM,hz,uS,List.take_zero,List.nil_append,ux]at hy;rw[hy];exact ki _
 ·have ne:a≠s2.heap.objs.size:=uX (uw z3);exact k2 a o z1 ne ((vp _ _ (Ne.symm ne)).trans (kept a o z1 (uh _ z3)))
end
section
variable{X:Cx}
theorem nB(hu:X.A.units+64<cLine)(hc:X.calm=true):ef X (.builtin "min") (fun xs H Q=>∃(p:Addr)(zs:AP),xs=[.ref p]/\SqL X.K H p (zs.map fun z=>V.ref z.1)/\(∀z∈zs,SqT X.K H z.1 [.int z.2.1,.int z.2.2])/\0<zs.length/\
  ∀b:Addr×(Int×Int),b∈zs->(∀y∈zs,ltP y.2 b.2=false)->Q (.ref b.1) H):=by
 intro pins s σ H xs us Q I r h;obtain⟨p,zs,rfl,hx,hz,ne,q⟩:=h;obtain⟨u,rfl,ru⟩:=vals1 r;cases ru;obtain⟨vs,rv,pl,hzl⟩:=I.list hx;have refs:∀{ys:AP}{us:List Value},Vals (ys.map fun z=>V.ref z.1) us->us=aA ys:=by
  intro ys
  induction ys with
  |nil=>intro us r;cases r;rfl
  |cons z ys ih=>
   intro us r;rw[vi]at r;cases r with
   |cons a b=>cases a;rw[ih b];rfl
 obtain rfl:=refs rv;have two:∀z∈zs,Is2 s.heap z.1 z.2:=fun z mz=>by obtain⟨its,rv',⟨o,e1,e2,n,e3⟩,_⟩:=I.tuple (hz z mz);obtain⟨v1,v2,rfl,⟨t,rfl⟩,⟨t',rfl⟩⟩:=vals2 rv';exact⟨o,n,t,t',e1,e2,e3⟩
 refine rE (I.ok.hd hc) (by omega) pl.isList two ne fun b h' tk hb hk=>?_;exact⟨.ref b.1,H,I.kept hk,rfl,q b hb.mem fun y hy=>hb.le y (by rw[vl];exact hy)⟩
end
end LT
namespace L2
open PySem PySem.Spec PyProof.Rows
open LO LT
theorem oy{p q:Int×Int}(h1:ltP p q=false)(h2:ltP q p=false):p=q:=by unfold ltP at*;simp only[Bool.or_eq_false_iff,Bool.and_eq_false_iff,decide_eq_false_iff_not]at*;exact Prod.ext (by omega) (by omega)
theorem rK{p q:Int×Int}(h:¬ri p q):ltP p q=false:=by
 cases e:ltP p q with
 |false=>rfl
 |true=>unfold ltP at e;simp only[Bool.or_eq_true,vo,uH]at e;exact(h e).elim
theorem rj{K:Frag}{H:Hp}{vs:List V}{R:List Pt}(p:Paired (PtE K H) vs R):∃zs:LT.AP,vs=zs.map (fun z=>V.ref z.1)/\zs.map (·.2)=R/\∀z∈zs,SqT K H z.1 [.int z.2.1,.int z.2.2]:=by
 induction p with
 |nil=>exact⟨[],rfl,rfl,fun _ z=>(vB z).elim⟩
 |cons a _ ih=>obtain⟨b,rfl,hb⟩:=a;obtain⟨zs,rfl,rfl,hz⟩:=ih;exact⟨(b,_)::zs,rfl,rfl,fun z hz'=>(uY.mp hz').elim (fun e=>e▸hb) (hz z)⟩
theorem cW{α β:Type}{R:α->β->Prop}{xs:List α}{ys:List β}(p:Paired R xs ys){i:Int}{y:β}(h:atI ys i=some y):∃v,atI xs i=some v/\R v y:=by unfold atI at h ⊢;rw[uL p];obtain⟨j,e1,e2⟩:=Option.bind_eq_some_iff.mp h;have hj:=(ur.mp e2).1;rw[<-uL p]at hj;have e3:xs[j]?=some xs[j]:=uq hj;obtain⟨y',f1,f2⟩:=bg p e3;rw[e2]at f1;cases f1;exact⟨xs[j],by rw[e1];exact e3,f2⟩
theorem lS{α:Type}{xs:List α}{i k:Nat}(hk:k<=xs.length)(hi:i<xs.length):atI xs ((i:Int)-(k:Nat))=xs[(i+xs.length-k) % xs.length]? :=by
 by_cases z:i<k
 ·rw[vV (by omega)];have e:ixN xs.length ((i:Int)-(k:Nat))=some (i+xs.length-k):=by
   unfold ixN;rw[uo (by omega),um (by omega)];congr 1;omega
  unfold atI;rw[e];rfl
 ·rw[show i+xs.length-k=(i-k)+xs.length by omega,Nat.add_mod_right,vV (by omega)];have e:((i:Int)-(k:Nat))=((i-k:Nat):Int):=by omega
  rw[e];have h:=uq (show i-k<xs.length by omega);rw[h];exact ak h
theorem nX(p q:Pt):PyData.eqv (cH [.inl p.1,.inl p.2]) (cH [.inl q.1,.inl q.2])=decide (p=q):=by
 show PyData.eqvAll (([.inl p.1,.inl p.2]:List Key).map cJ) (([.inl q.1,.inl q.2]:List Key).map cJ)=_;rw[gx,vu,uH,uH];constructor
 ·intro h;obtain⟨h1,h2⟩:=uZ h;exact Prod.ext (Sum.inl.inj h1) (Sum.inl.inj (uZ h2).1)
 ·intro h;rw[h]
end L2
namespace LO
open L2
noncomputable def l7(p0 p1 p2:Pt):Int:=sgn p0.1 p1.1*sgn p1.2 p2.2-sgn p0.2 p1.2*sgn p1.1 p2.1
def TurnOk(S R:List Pt):Prop:=∀i,i<R.length->∃p0 p1 p2,atI R ((i:Int)-2)=some p0/\atI R ((i:Int)-1)=some p1/\R[i]?=some p2/\l7 p0 p1 p2≠0/\(l7 p0 p1 p2<0->(S.countP fun q=>decide (q=p1))<=1)/\(-1<=sgn p0.1 p1.1/\sgn p0.1 p1.1<=1)/\(-1<=sgn p0.2 p1.2/\sgn p0.2 p1.2<=1)
theorem iY(a b:Int): -1<=sgn a b/\sgn a b<=1:=by unfold sgn;split<;>split<;>omega
section
variable{G:Gr}{W:List Sd}{rs:List Run}
theorem Rr.turn(h:Rr G W rs){S:List Pt}(hS:∀p,(∀s t,brd G s=true->brd G t=true->s.st=p->t.st=p->s=t)->(S.countP fun q=>decide (q=p))<=1):TurnOk S (rs.map (·.c)):=by
 intro i hi;have four:=h.four;rw[uj]at hi;obtain⟨r,er⟩:∃r,rs[i]?=some r:=⟨_,uq hi⟩;obtain⟨q,eq,n1⟩:=h.prev er;obtain⟨p,ep,n2⟩:=h.prev eq;have e2:((i+rs.length-1) % rs.length+rs.length-1) % rs.length=(i+rs.length-2) % rs.length:=by
  cases i with
  |zero=>rw[vV (show 0+rs.length-1<rs.length by omega),show 0+rs.length-1+rs.length-1=rs.length-2+rs.length by omega,Nat.add_mod_right,Nat.zero_add]
  |succ i=>rw[show i+1+rs.length-1=i+rs.length by omega,Nat.add_mod_right,vV (show i<rs.length by omega),show i+rs.length-1=i+1+rs.length-2 by omega]
 rw[e2]at ep;have hn:(rs.map (·.c)).length=rs.length:=uj ..;have a2:atI (rs.map (·.c)) ((i:Int)-2)=some p.c:=by have:=lS (xs:=rs.map (·.c)) (i:=i) (k:=2) (by omega) (by omega);rw[hn,uU,ep]at this;exact this
 have a1:atI (rs.map (·.c)) ((i:Int)-1)=some q.c:=by have:=lS (xs:=rs.map (·.c)) (i:=i) (k:=1) (by omega) (by omega);rw[hn,uU,eq]at this;exact this
 have h1:=n2.head (h.pos p (uF ep));have h2:=n1.head (h.pos q (uF eq));have et:l7 p.c q.c r.c=p.d.dx*q.d.dy-p.d.dy*q.d.dx:=by unfold l7;rw[h1.1,h1.2,h2.1,h2.2]
 refine⟨p.c,q.c,r.c,a2,a1,by rw[uU,er];rfl,?_,fun z=>?_,iY _ _,iY _ _⟩
 ·rw[et];rcases n2.d with z|z<;>rw[z]<;>cases p.d<;>decide
 ·refine hS q.c (n2.one ?_);rcases n2.d with y|y
  ·rw[et,y]at z;exfalso
   revert z
   cases p.d<;>decide
  ·exact y
theorem kB:∀{U:List Sd},U.Nodup->∀{p:Pt},(∀s∈U,∀t∈U,s.st=p->t.st=p->s=t)->((U.map Sd.st).countP fun q=>decide (q=p))<=1
 | [],_,_,_=>vg _
 |s::U,nd,p,one=>by
  rw[vi,List.countP_cons];obtain⟨n1,n2⟩:=vh.mp nd;by_cases z:s.st=p
  ·have:(U.map Sd.st).countP (fun q=>decide (q=p))=0:=by
    rw[List.countP_eq_zero];intro q hq c;obtain⟨t,ht,rfl⟩:=uO.mp hq;have:=one s (uy ..) t (uv _ ht) z (uW c);exact n1 (this▸ht)
   rw[this];split<;>omega
  ·rw[uo (by rw[uH];exact z)];exact kB n2 fun a ha b hb=>one a (uv _ ha) b (uv _ hb)
noncomputable def rot(rs:List Run):List Run:=match rs.getLast? with|some l=>l::rs.dropLast|none=>[]
theorem gI(ne:rs≠[]):(rot rs).Perm rs:=by unfold rot;rw[uR ne];have e:=List.dropLast_concat_getLast ne;have p:(rs.getLast ne::rs.dropLast).Perm (rs.dropLast++[rs.getLast ne]):=(List.perm_append_comm (l₁:=[rs.getLast ne]) (l₂:=rs.dropLast));rw[e]at p;exact p
theorem qZ{i:Nat}(hi:i<rs.length):(rot rs)[i]?=rs[(i+rs.length-1) % rs.length]? :=by
 have ne:rs≠[]:=fun z=>by rw[z]at hi;cases hi
 unfold rot;rw[uR ne];cases i with
 |zero=>rw[Nat.zero_add,vV (by omega),<-List.getLast?_eq_getElem?,uR ne];rfl
 |succ i=>rw[show i+1+rs.length-1=i+rs.length by omega,Nat.add_mod_right,vV (show i<rs.length by omega)];show rs.dropLast[i]?=_;rw[List.getElem?_dropLast,um (by omega)]
theorem qY(q:Run)(j:Nat):q.sds.take (j+1)=q.sds.take j++(if j<q.n then[⟨q.c.1+j*q.d.dx,q.c.2+j*q.d.dy,q.d⟩]else[]):=by
 rw[uM];congr 1;unfold Run.sds;rw[uU];by_cases z:j<q.n
 ·rw[List.getElem?_range z,um z];rfl
 ·rw[List.getElem?_eq_none (by rw[vG];omega),uo z];rfl
theorem gw(q:Run):q.sds.length=q.n:=by unfold Run.sds;rw[uj,vG]
theorem oN{L:List Run}{k:Nat}{q:Run}(h:L[k]?=some q):((L.take k).flatMap Run.sds).length+q.n<=(L.flatMap Run.sds).length:=by
 have hk:=(ur.mp h).1;have e:L=L.take k++q::L.drop (k+1):=by have:=List.drop_eq_getElem_cons hk;rw[(ur.mp h).2]at this;rw[<-this,u0]
 have e2:(L.flatMap Run.sds).length=((L.take k++q::L.drop (k+1)).flatMap Run.sds).length:=by rw[<-e]
 rw[e2,List.flatMap_append,List.flatMap_cons,uV,uV,gw];omega
theorem pH(q:Run){j:Nat}(hj:j<=q.n):((q.c.1+j*q.d.dx,q.c.2+j*q.d.dy):Pt)=q.en<->j=q.n:=by
 constructor
 ·intro h;have e1:q.c.1+j*q.d.dx=q.c.1+q.n*q.d.dx:=congrArg Prod.fst h;have e2:q.c.2+j*q.d.dy=q.c.2+q.n*q.d.dy:=congrArg Prod.snd h;cases hd:q.d<;>rw[hd]at e1 e2<;>simp only[Dr.dx,Dr.dy]at e1 e2<;>omega
 ·intro h;rw[h];rfl
end
end LO
namespace L2
open PySem PySem.Spec PyProof.Rows
open LO LT
noncomputable def mP(U:List Sd):PyData:=.list (U.map fun s=>fX (aK s))
theorem fC{K:Frag}{H:Hp}{xs:List V}{U:List Sd}(hI:Paired (aN K H) xs U):eO K H (U.map fun s=>fX (aK s)) xs:=by
 induction hI with
 |nil=>exact .nil
 |cons a b ih=>obtain⟨t,rfl,h⟩:=a;exact .cons (bK h).isD (ih)
theorem dB(U:List Sd):(mP U).canLay0=true:=by
 show PyData.canLayAll0 _=true
 induction U with
 |nil=>rfl
 |cons s U ih=>exact ih
theorem jP(U:List Sd):(mP U).depth<=50:=by
 show PyData.depthAll _+1<=50;have:PyData.depthAll (U.map fun s=>fX (aK s))<=2:=by
  induction U with
  |nil=>decide
  |cons s U ih=>show max (PyData.depth (fX (aK s))) (PyData.depthAll (U.map fun s=>fX (aK s)))<=2;have h2:PyData.depth (fX (aK s))=2:=rfl;omega
 omega
theorem tK{a b c d:Int}(h:decide (V.bl (decide (V.int a=V.int b))=V.bl (decide (V.int c=V.int d)))=true):decide (a=b)=decide (c=d):=by
 have h1:=V.bl.inj (uW h);have e:∀x y:Int,decide (V.int x=V.int y)=decide (x=y):=fun x y=>by rw[vu,uH,uH];exact⟨fun h=>V.int.inj h,fun h=>h▸rfl⟩
 rw[e,e]at h1;exact h1
end L2
namespace LO
open LT L2
theorem oS{w h g:Nat}{s:Sd}(hb:at4 (grd w h g) s.x s.y s.d=true):(0<=s.x/\s.x<=w)/\(0<=s.y/\s.y<=h)/\(0<=s.ex/\s.ex<=w)/\(0<=s.ey/\s.ey<=h):=by obtain⟨x,y,d⟩:=s;have h':grd w h g (d.cx x) (d.cy y)=true:=hb;unfold grd at h';simp only[vo,uH]at h';obtain⟨⟨⟨⟨a1,a2⟩,a3⟩,a4⟩,_⟩:=h';cases d<;>simp[Dr.cx,Dr.cy,Sd.ex,Sd.ey,Dr.dx,Dr.dy]at* <;>omega
section
variable{G:Gr}{W:List Sd}{rs:List Run}{s:Sd}{n:Nat}
theorem Rr.farR(r:Rr G W rs):∀i p q,(aI W)[i]?=some q->(((aI W).take i).getLast?.or (aI W).getLast?)=some p->decide (p.1=q.1)≠decide (p.2=q.2):=by
 intro i p q hq hp;rw[r.ring]at hq hp;rw[uU]at hq;obtain⟨b,eb,rfl⟩:=vN.mp hq;rw[<-List.map_take,List.getLast?_map,List.getLast?_map]at hp;have hi:=(ur.mp eb).1;cases i with
 |zero=>rw[List.take_zero]at hp;obtain⟨c,ec,rfl⟩:=vN.mp hp;exact(r.cyc c b ec eb).far (r.pos c (List.mem_of_getLast? ec))
 |succ i=>
  have hi':i<rs.length:=by omega
  rw[List.take_succ_eq_append_getElem hi',List.getLast?_concat]at hp;cases hp;exact(r.nx i _ b (uq hi') eb).far (r.pos _ (List.getElem_mem hi'))
theorem LW.leastR(h:LW G W s n):∀p∈aI W,ltP p s.st=false:=fun p hp=>by obtain⟨t,ht,rfl⟩:=jw hp;exact rK (h.least t ht)
end
theorem kx:∀(l:List Int),l.foldr (·+·) 0=l.sum
 | []=>rfl
 |a::l=>by rw[List.foldr_cons,List.sum_cons,kx l]
theorem Rs.area{w h g:Nat}{Ws:List (List Sd)}(hw:0<w)(r:Rs (grd w h g) Ws):((Ws.map aI).map gn).sum=2*((((List.range (w*h)).filter g.testBit).length:Nat):Int):=by have a:=r.sum ee;rw[mL hw r.nd r.all,kx]at a;exact a
end LO
namespace L2
open PySem PySem.Spec PyProof.Rows
open LO LT
theorem nP{K:Frag}{H:Hp}{G:Gr}:∀{vs:List V}{Ws:List (List Sd)},Paired (iu K H) vs (Ws.map aI)->(∀W∈Ws,∃s n,LW G W s n)->∃zs:LT.AP,vs=zs.map (fun z=>V.ref z.1)/\zs.map (·.2)=Ws.map g8/\∀z∈zs,PlA K H z.1 z.2
 |_,[],.nil,_=>⟨[],rfl,rfl,fun _ z=>(vB z).elim⟩
 |_,W::Ws,.cons a p,wk=>by
  obtain⟨b,rfl,xs,h1,h2⟩:=a;obtain⟨zs,rfl,e,hz⟩:=nP p fun V hV=>wk V (uv _ hV);obtain⟨s,n,lw⟩:=wk W (uy ..);obtain⟨R,eR⟩:=lw.head;rw[eR]at h2;cases h2 with
  |cons c _=>
   obtain⟨t,rfl,ht⟩:=c;refine⟨(b,g8 W)::zs,rfl,by rw[vi,vi,e],fun z hz'=>?_⟩;rcases uY.mp hz' with y|y
   ·rw[y,lw.fst];exact⟨t,_,h1,ht⟩
   ·exact hz z y
theorem pN{p q:Int×Int}(hp:ij p)(hq:ij q)(e:ptN p=ptN q):p=q:=by obtain⟨a,b⟩:=p;obtain⟨c,d⟩:=q;obtain⟨h1,h2⟩:=hp;obtain⟨k1,k2⟩:=hq;have h1:0<=a/\a<16:=h1;have h2:0<=b/\b<16:=h2;have k1:0<=c/\c<16:=k1;have k2:0<=d/\d<16:=k2;have e:a*16+b=c*16+d:=e;exact Prod.ext (show a=c by omega) (show b=d by omega)
theorem nY{ys zs:LT.AP}(pm:ys.Perm zs)(ok:∀z∈zs,ij z.2)(nd:(zs.map (·.2)).Nodup)(s1:(ys.map fun z=>ptN z.2).Pairwise (·<=·))(s2:(zs.map fun z=>ptN z.2).Pairwise (·<=·)):ys=zs:=by rw[List.pairwise_map]at s1 s2;refine List.Perm.eq_of_pairwise (le:=fun z y=>ptN z.2<=ptN y.2) (fun a b ha hb h1 h2=>?_) s1 s2 pm;have ma:=pm.mem_iff.mp ha;have e:=pN (ok a ma) (ok b hb) (by omega);exact Prod.ext (oo nd a ma b hb e) e
end L2
namespace My
open PySem L2 LM PyProof.Rows
noncomputable abbrev Pg:Program:=PySem.Challenge.rw_landroll_k17_sides_and_rings.prog
noncomputable def top(i:Nat):Stmt:=PySem.Challenge.pw_landroll_k17_sides_and_rings.main.body.getD i (.Pass ⟨0,0,0,0⟩)
section
set_option maxHeartbeats 4000000
local macro_rules
 | `(tactic|trivial)=> `(tactic|first|exact Or.inl rfl|exact Or.inr rfl|decide+kernel|exact⟨rfl,rfl,rfl,by decide+kernel,rfl,by decide+kernel,by decide+kernel⟩)
variable{P:Program}{w:World}{K:Frag}{mg:Str->Option Value}{base:Heap}
variable(B:Bn mg)
def nM(K:Frag):Sp:=fun vs H Q _=>∃(c:Nat)(k:Int),vs=[.int c,.int k]/\Q (.bl (decide (0<=k)&&c.testBit k.toNat)) H
variable(mF:Df P w K mg base 1 "has" ["cells","cell"] (nM K))
theorem qW:aE ["cells","cell"] ["cells","cell"] (au (top 1)):=by trivial
include B in
theorem rD(T:Tx K mg "has" (top 1) ["cells","cell"]):Df P w K mg base 1 "has" ["cells","cell"] (nM K):=by
 refine T.df qW (by rintro _ _ _ _ ⟨c,k,rfl,q⟩;rfl) ?_;rintro f _ A _ s H _ Q E hr ⟨c,k,rfl,q⟩;refine⟨_,(ai (aD (e7 (aY sT (pv 1) ab (aF _)) (eZ (aY cq (aj og (aj rA (pv 0) (pv 1)) ab) ab (aF _)))))),?_⟩;refine⟨_,rfl,_,_,rfl,rfl,_,rfl,?_⟩;refine br (fun h0=>?_) (fun h0=>?_)
 ·have h0':0<=k:=uW h0;refine⟨_,rfl,_,rfl,_,_,rfl,rfl,h0',_,_,rfl,rfl,rfl,?_⟩;rw[rQ c k h0'];exact q
 ·have e:decide (0<=k)=false:=by simpa using h0
  rw[e]at q;exact q
def fB(K:Frag):Sp:=fun vs H Q _=>∃(a:Addr)(w h k:Int),vs=[.ref a,.int k]/\SqT K H a [.int w,.int h]/\(0<w/\w<1073741824)/\Q (.int (k % w)) H
variable(dv:Df P w K mg base 1 "column_of" ["floor","cell"] (fB K))
theorem i7:aE ["floor","cell"] ["floor","cell"] (au (top 3)):=by trivial
include B in
theorem jk(T:Tx K mg "column_of" (top 3) ["floor","cell"]):Df P w K mg base 1 "column_of" ["floor","cell"] (fB K):=by refine T.df i7 (by rintro _ _ _ _ ⟨a,w,h,k,rfl,hT,hw,q⟩;rfl) ?_;rintro f _ A _ s H _ Q E hr ⟨a,w,h,k,rfl,hT,hw,q⟩;refine⟨_,(ai (aD (aj bp (pv 1) (av ay (pv 0) ab (fun _ _=>rfl))))),?_⟩;exact⟨_,rfl,_,rfl,a,_,_,_,rfl,rfl,hT,rfl,_,_,rfl,rfl,hw.1,q⟩
def iB(K:Frag):Sp:=fun vs H Q _=>∃(a:Addr)(w h k:Int),vs=[.ref a,.int k]/\SqT K H a [.int w,.int h]/\(0<w/\w<1073741824)/\Q (.int (k / w)) H
variable(fN:Df P w K mg base 1 "row_of" ["floor","cell"] (iB K))
theorem mR:aE ["floor","cell"] ["floor","cell"] (au (top 4)):=by trivial
include B in
theorem m5(T:Tx K mg "row_of" (top 4) ["floor","cell"]):Df P w K mg base 1 "row_of" ["floor","cell"] (iB K):=by refine T.df mR (by rintro _ _ _ _ ⟨a,w,h,k,rfl,hT,hw,q⟩;rfl) ?_;rintro f _ A _ s H _ Q E hr ⟨a,w,h,k,rfl,hT,hw,q⟩;refine⟨_,(ai (aD (aj bT (pv 1) (av ay (pv 0) ab (fun _ _=>rfl))))),?_⟩;exact⟨_,rfl,_,rfl,a,_,_,_,rfl,rfl,hT,rfl,_,_,rfl,rfl,hw,q⟩
def gC(K:Frag):Sp:=fun vs H Q _=>∃(b:Addr)(s:LO.Sd),vs=[.ref b]/\LT.cC K H b s/\∀l H',ao H H'->SqT K H' l [.int s.d.dx,.int s.d.dy]->Q (.ref l) H'
variable(bO:Df P w K mg base 1 "step_of" ["side"] (gC K))
theorem kP:aE ["side"] ["side"] (au (top 8)):=by trivial
include B in
theorem kZ(T:Tx K mg "step_of" (top 8) ["side"]):Df P w K mg base 1 "step_of" ["side"] (gC K):=by refine T.df kP (by rintro _ _ _ _ ⟨b,s,rfl,hs,q⟩;rfl) ?_;rintro f _ A _ s H _ Q E hr ⟨b,s,rfl,hs,q⟩;refine⟨_,(ai (aD (aH (aa (aj aT (av ay (av ay (pv 0) ab (fun _ _=>rfl)) ab (fun _ _=>rfl)) (av ay (av ay (pv 0) ab (fun _ _=>rfl)) ab (fun _ _=>rfl))) (aa (aj aT (av ay (av ay (pv 0) ab (fun _ _=>rfl)) ab (fun _ _=>rfl)) (av ay (av ay (pv 0) ab (fun _ _=>rfl)) ab (fun _ _=>rfl))) ae))))),?_⟩;obtain⟨p,r,h1,h2,h3⟩:=hs;refine⟨_,rfl,b,_,_,_,rfl,rfl,h1,ak (j:=1) rfl,r,_,_,_,rfl,rfl,h3,ak (j:=0) rfl,_,rfl,b,_,_,_,rfl,rfl,h1,ak (j:=0) rfl,p,_,_,_,rfl,rfl,h2,ak (j:=0) rfl,_,_,rfl,rfl,_,rfl,b,_,_,_,rfl,rfl,h1,ak (j:=1) rfl,r,_,_,_,rfl,rfl,h3,ak (j:=1) rfl,_,rfl,b,_,_,_,rfl,rfl,h1,ak (j:=0) rfl,p,_,_,_,rfl,rfl,h2,ak (j:=1) rfl,_,_,rfl,rfl,aB rfl,fun l hl=>?_⟩;exact q l _ (ao.upd hl) (sq2 (SqT.of af) (by show s.x+s.d.dx-s.x=_;omega) (by show s.y+s.d.dy-s.y=_;omega))
def eP(K:Frag):Sp:=fun vs H Q _=>∃(a:Addr)(R:List LO.Pt),vs=[.ref a]/\dQ K H a R/\(∀p∈R,-20<=p.1/\p.1<=20/\ -20<=p.2/\p.2<=20)/\∀H',ao H H'->Q (.int (LO.gn R)) H'
variable(cP:Df P w K mg base 1 "twice_area" ["ring"] (eP K))
theorem bA:aE ["ring","area","place","point","ahead"] ["ring"] (au (top 13)):=by trivial
include B in
theorem il(T:Tx K mg "twice_area" (top 13) ["ring"]):Df P w K mg base 1 "twice_area" ["ring"] (eP K):=by
 refine T.df bA (by rintro _ _ _ _ ⟨a,R,rfl,hx,pb,q⟩;rfl) ?_;rintro f _ A _ s H _ Q E hr ⟨a,R,rfl,hx,pb,q⟩;refine aZ ?_;intro kX;refine ah 2 (ai (aD (pv 1))) ?_;intro kR2 pR2;refine aC 1 1 (ai (aq (i:=1) bA.nd rfl (by trivial) (aj aT (aj aO (pv 1) (aj cf (av ay (pv 4) ab (fun _ _=>rfl)) (av ay (pv 3) ab (fun _ _=>rfl)))) (aj cf (av ay (pv 3) ab (fun _ _=>rfl)) (av ay (pv 4) ab (fun _ _=>rfl)))))) ?_;intro kS1x1 pS1x1;refine aC 1 0 (ag (aq (i:=4) bA.nd rfl (by trivial) (av aV (pv 0) (aj aT (pv 2) ab) (fun _ _=>rfl))) pS1x1) ?_;intro kS1x0 pS1x0;refine ah 1 (ag (cc vk rfl (jZ (by rfl) B.enumerate (aa (pv 0) ae)) (nZ rfl (fH (aR (i:=2) bA.nd rfl (by trivial)) (fH (aR (i:=3) bA.nd rfl (by trivial)) me))) pS1x0) pR2) ?_;intro kR1 pR1;refine⟨_,(ag (aq (i:=1) bA.nd rfl (by trivial) ab) pR1),?_⟩;obtain⟨xs,hx,px⟩:=hx;refine⟨_,rfl,a,rfl,⟨_,SqL.of hx⟩,nv (K:=K) (a:=a) (xs:=xs) (fun i σ H2=>∃(o2 o3 o4:Option V),σ=[some (.ref a),some (.int (LO.cM (·+·) 0 LO.cro (LO.lstP R) (R.take i))),o2,o3,o4]/\ao H H2) ⟨none,none,none,rfl,ao.refl _⟩ (fun i σ H2 _ hPz=>hPz.elim fun _ hPz=>hPz.elim fun _ hPz=>hPz.elim fun _ hPz=>(fun z=>SqL.of (z _ _ hx)) (hPz.2)) ?_ ?_⟩
 ·rintro i v σ H2 N hi ⟨o2,o3,o4,rfl,s2⟩ hN;obtain⟨v',q1,q0,a1,hq1,⟨b,rfl,hb⟩,hq0,⟨b',rfl,hb'⟩⟩:=de px hi;have u3:=ao.upd (o:=.tup [.int (i:Nat),.ref b]) hN;have k3:SqT K (upd H2 N (.tup [.int (i:Nat),.ref b])) N [.int (i:Nat),.ref b]:=SqT.of af;have s3:=s2.trans u3;generalize (upd H2 N (.tup [.int (i:Nat),.ref b]))=H3 at u3 k3 s3 ⊢;have hb3:=s3.tup hb;have hb3':=s3.tup hb';have st:=LO.jW (op:=(·+·)) (u:=(0:Int)) (f:=LO.cro) (fun _ _ _=>Int.add_assoc ..) (fun _=>Int.zero_add _) (fun _=>Int.add_zero _) hq1 hq0;simp only[st];refine⟨N,_,rfl,k3,rfl,_,_,rfl,_,_,rfl,rfl,?_⟩;refine⟨_,rfl,_,rfl,_,_,rfl,rfl,a,_,_,_,rfl,rfl,SqL.of (s3 _ _ hx),a1,?_⟩;have mq1:q1∈R:=uF hq1;have mq0:q0∈R:=by
   cases e:(R.take i).getLast? with
   |some x=>rw[e]at hq0;cases hq0;exact vj (List.mem_of_getLast? e)
   |none=>rw[e]at hq0;exact List.mem_of_getLast? hq0
  have b1:=pb q1 mq1;have b0:=pb q0 mq0;refine⟨_,rfl,_,rfl,b',_,_,_,rfl,rfl,hb3',ak (j:=0) rfl,_,rfl,b,_,_,_,rfl,rfl,hb3,ak (j:=1) rfl,_,_,rfl,rfl,?_,_,_,rfl,rfl,_,rfl,b,_,_,_,rfl,rfl,hb3,ak (j:=0) rfl,_,rfl,b',_,_,_,rfl,rfl,hb3',ak (j:=1) rfl,_,_,rfl,rfl,?_,_,_,rfl,rfl,?_⟩
  ·exact .inl ⟨by omega,by omega⟩
  ·exact .inl ⟨by omega,by omega⟩
  ·refine⟨some (.int (i:Nat)),some (.ref b),some (.ref b'),?_,s3⟩;show[_,some (V.int (LO.cM (·+·) 0 LO.cro (LO.lstP R) (R.take i)+q0.1*q1.2-q1.1*q0.2)),_,_,_]=_;rw[Int.add_sub_assoc];rfl
 ·rintro σ H2 ⟨o2,o3,o4,rfl,s2⟩;rw[uL px,vl];refine⟨_,rfl,?_⟩;have:=q _ s2;unfold LO.gn at this;rw[LO.jR]at this;exact this
def dX(K:Frag):Sp:=fun vs H Q _=>∃(a:Addr)(ns:List Int)(k:Nat),vs=[.ref a,.int k]/\SqL K H a (ns.map V.int)/\Q (.int (ns.getD k 0)) H
variable(bC:Df P w K mg base 1 "_law_cell_at" ["_law_script","_law_k"] (dX K))
theorem gH:aE ["_law_script","_law_k"] ["_law_script","_law_k"] (au (top 15)):=by trivial
include B in
theorem gU(T:Tx K mg "_law_cell_at" (top 15) ["_law_script","_law_k"]):Df P w K mg base 1 "_law_cell_at" ["_law_script","_law_k"] (dX K):=by
 refine T.df gH (by rintro _ _ _ _ ⟨a,ns,k,rfl,hS,q⟩;rfl) ?_;rintro f _ A _ s H _ Q E hr ⟨a,ns,k,rfl,hS,q⟩;refine aZ ?_;intro kX;refine ah 1 (ai (aD ab)) ?_;intro kR1 pR1;refine⟨_,(ag (bh (aU gQ (pv 1) (aM a7 (by rfl) B.len PySem.boot_len (aa (pv 0) ae)) (aF _)) (ai (aD (av aV (pv 0) (pv 1) (fun _ _=>rfl)))) aL) pR1),?_⟩;refine⟨_,rfl,_,rfl,a,_,rfl,.inl hS,_,_,rfl,rfl,_,rfl,?_⟩;refine br (fun h1=>?_) (fun h1=>?_)
 ·have h1':k<ns.length:=by
   have:=uW h1;rw[uj]at this;omega
  refine⟨_,rfl,_,rfl,a,_,_,_,rfl,rfl,hS,ak (show(ns.map V.int)[k]?=some (.int (ns.getD k 0)) by simp[h1',List.getD]),q⟩
 ·have h1':¬k<ns.length:=fun z=>h1 (by
   rw[uH,uj]
   omega)
  have e:ns.getD k 0=0:=by simp[List.getD,Nat.le_of_not_lt h1']
  rw[e]at q;exact q
def ft(K:Frag):Sp:=fun vs H Q _=>∃(x:V)(n:String),vs=[x]/\c0 K H x (.type n)/\Q (.bl (isI x)) H
variable(bu:Df P w K mg base 1 "_law_whole" ["_law_found"] (ft K))
theorem iZ:aE ["_law_found"] ["_law_found"] (au (top 16)):=by trivial
include B in
theorem jd(T:Tx K mg "_law_whole" (top 16) ["_law_found"]):Df P w K mg base 1 "_law_whole" ["_law_found"] (ft K):=by
 refine T.df iZ (by rintro _ _ _ _ ⟨x,n,rfl,ty,q⟩;rfl) ?_;rintro f _ A _ s H _ Q E hr ⟨x,n,rfl,ty,q⟩;refine⟨_,(ai (aD (e7 (aM ed (by rfl) B.isinstance boot_isinstance (aa (pv 0) (aa (dH (x:="int") (v:=.ty "int") (by rfl) B.int boot_int rfl) ae))) (eZ (ro (aM ed (by rfl) B.isinstance boot_isinstance (aa (pv 0) (aa (dH (x:="bool") (v:=.ty "bool") (by rfl) B.bool boot_bool rfl) ae)))))))),?_⟩;have k1:=qk K ty;have k2:=oF K ty;refine⟨_,rfl,_,_,_,_,rfl,ty,k1,_,rfl,?_⟩;refine br (fun h1=>?_) (fun h1=>?_)
 ·refine⟨_,rfl,_,_,_,_,rfl,ty,k2,_,rfl,?_⟩;cases x<;>simp_all [isI,isB]
 ·cases x<;>simp_all [isI,isB]
def gf(K:Frag):Sp:=fun vs H Q _=>∃(c:Int),vs=[.int c]/\∀r:Int,Q (.int r) H
variable(cB:Df P w K mg base 1 "_law_bits" ["_law_cell"] (gf K))
theorem gh:aE ["_law_cell","_law_one"] ["_law_cell"] (au (top 17)):=by trivial
include B in
theorem j5(T:Tx K mg "_law_bits" (top 17) ["_law_cell"]):Df P w K mg base 1 "_law_bits" ["_law_cell"] (gf K):=by refine T.df gh (by rintro _ _ _ _ ⟨c,rfl,q⟩;rfl) ?_;rintro f _ A _ s H _ Q E hr ⟨c,rfl,q⟩;refine aZ ?_;intro kX;refine ah 1 (ai (aD (aj rz (pv 1) (aj bT (pv 1) ab)))) ?_;intro kR1 pR1;refine⟨_,(ag (aq (i:=1) gh.nd rfl (by trivial) (aj bp (aj cf (aj bp (pv 0) (aj n6 ab ab)) ab) (aj n6 ab ab))) pR1),?_⟩;refine⟨_,rfl,_,_,rfl,rfl,⟨by decide,by decide,by decide⟩,_,_,rfl,rfl,(by show(0:Int)<_;decide),_,_,rfl,rfl,.inl (sW c),_,_,rfl,rfl,⟨by decide,by decide,by decide⟩,_,_,rfl,rfl,(by show(0:Int)<_;decide),?_⟩;exact⟨_,rfl,_,rfl,_,_,rfl,rfl,⟨by decide,by decide⟩,_,_,rfl,rfl,q _⟩
def fz(K:Frag):Sp:=fun vs H Q _=>∃(r:Int)(w h:Nat),vs=[.int r,.int w,.int h]/\(0<w/\w<=8/\0<h/\h<=8)/\∀(v:Int) H',ao H H'->Q (.int v) H'
variable(du:Df P w K mg base 1 "_law_shape" ["_law_rest","_law_wide","_law_high"] (fz K))
theorem aX:aE ["_law_rest","_law_wide","_law_high","_law_found","_law_k","_law_x","_law_y","_law_held"] ["_law_rest","_law_wide","_law_high"] (au (top 18)):=by trivial
include B in
theorem jh(T:Tx K mg "_law_shape" (top 18) ["_law_rest","_law_wide","_law_high"]):Df P w K mg base 1 "_law_shape" ["_law_rest","_law_wide","_law_high"] (fz K):=by
 refine T.df aX (by rintro _ _ _ _ ⟨r,w,h,rfl,⟨hw,hw8,hh,hh8⟩,q⟩;rfl) ?_;rintro f _ A _ s H _ Q E hr ⟨r,w,h,rfl,⟨hw,hw8,hh,hh8⟩,q⟩;refine aZ ?_;intro kX;refine ah 2 (ai (aD (pv 3))) ?_;intro kR2 pR2;refine aC 1 3 (ai (bh (aU mh (pv 7) (aY cq (pv 4) (aj bp (aj bT (pv 0) ab) (aj cf (pv 1) (pv 2))) (aF _)) (aF _)) (ai (aq (i:=3) aX.nd rfl (by trivial) (aj aO (pv 3) (aj e8 ab (pv 4))))) aL)) ?_;intro kS1x3 pS1x3;refine aC 1 2 (bM (bh (aU cq (aj bp (pv 0) ab) ab (aF _)) (ai (aq (i:=7) aX.nd rfl (by trivial) (qJ (aY cq (aj bp (pv 6) ab) ab (aF _)) (eZ (aY cq (pv 5) (av aV (d8 (aa (aj aT (pv 1) ab) (aa ab ae))) (aj bp (aj bT (pv 6) ab) ab) (fun _ _=>rfl)) (aF _)))))) (ai (bh (aU cq (aj bp (pv 0) ab) ab (aF _)) (ai (aq (i:=7) aX.nd rfl (by trivial) (qJ (aY iJ (pv 5) (aH (aa ab (aa (aj aT (pv 1) ab) ae))) (by with_unfolding_all rfl)) (eZ (aY iJ (pv 6) (aH (aa ab (aa (aj aT (pv 2) ab) ae))) (by with_unfolding_all rfl)))))) (ai (aq (i:=7) aX.nd rfl (by trivial) (aY cq (aj bp (aj aO (pv 5) (pv 6)) ab) (aj bp (aj bT (pv 0) ab) ab) (aF _))))))) pS1x3) ?_;intro kS1x2 pS1x2;refine aC 1 1 (ag (aq (i:=6) aX.nd rfl (by trivial) (aj bT (pv 4) (pv 1))) pS1x2) ?_;intro kS1x1 pS1x1;refine aC 1 0 (ag (aq (i:=5) aX.nd rfl (by trivial) (aj bp (pv 4) (pv 1))) pS1x1) ?_;intro kS1x0 pS1x0;refine ah 1 (ag (cc vk rfl (bN (by rfl) B.range (aa (aj cf (pv 1) (pv 2)) ae)) (aR (i:=4) aX.nd rfl (by trivial)) pS1x0) pR2) ?_;intro kR1 pR1;refine⟨_,(ag (aq (i:=3) aX.nd rfl (by trivial) ab) pR1),?_⟩;have hwh:w*h<=64:=Nat.mul_le_mul hw8 hh8;have hwp:0<w*h:=Nat.mul_pos hw hh;have e1:((w:Int)*(h:Int))=((w*h:Nat):Int):=by simp
 refine⟨_,rfl,_,rfl,_,_,rfl,rfl,.inl ⟨by omega,by omega⟩,_,rfl,by omega,by omega,?_⟩;refine cU (lo:=0) (fun i σ H2=>∃v o4 o5 o6 o7,σ=[some (.int r),some (.int w),some (.int h),some (.int v),o4,o5,o6,o7]/\ao H H2) ⟨0,none,none,none,none,rfl,ao.refl _⟩ ?_ ?_
 ·rintro i σ H2 hi ⟨v,o4,o5,o6,o7,rfl,s2⟩;refine dD ?_;intro kD1;have hi':i<64:=by
   rw[e1,vb]at hi;omega
  have y2:=Int.emod_two_eq (((0+(i:Int)) / (w:Int)) / 2);refine⟨_,rfl,_,rfl,_,_,rfl,rfl,(by omega),_,rfl,_,rfl,_,_,rfl,rfl,⟨by omega,by omega⟩,?_⟩;refine⟨fun σ' H'=>∃b,σ'=[some (.int r),some (.int w),some (.int h),some (.int v),some (.int (0+(i:Int))),some (.int ((0+(i:Int)) % (w:Int))),some (.int ((0+(i:Int)) / (w:Int))),some (.bl b)]/\ao H H',?_,?_⟩
  ·refine iN ?_;intro kD2;refine⟨_,rfl,_,_,rfl,rfl,(by show(0:Int)<_;decide),rfl,_,rfl,?_⟩;refine br (fun h1=>?_) (fun h1=>?_)
   ·refine⟨_,rfl,_,_,rfl,rfl,(by show(0:Int)<_;decide),rfl,_,rfl,?_⟩;refine br (fun h2=>?_) (fun h2=>?_)
    ·exact⟨_,rfl,s2⟩
    ·refine⟨_,rfl,_,rfl,_,_,rfl,rfl,aB rfl,fun l hl=>?_⟩;have s3:=s2.trans (ao.upd (o:=.lst [.int ((w:Int)-1),.int 0]) hl);obtain⟨v3,y3⟩:∃v3:Int,atI [V.int ((w:Int)-1),.int 0] ((((0+(i:Int)) / (w:Int)) / 2) % 2)=some (.int v3):=by
      rcases y2 with y2|y2
      ·rw[y2];exact⟨_,rfl⟩
      ·rw[y2];exact⟨_,rfl⟩
     refine⟨_,rfl,_,_,rfl,rfl,⟨by decide,by decide⟩,_,_,rfl,rfl,(by show(0:Int)<_;decide),l,_,_,_,rfl,rfl,SqL.of af,y3,rfl,?_⟩;exact⟨_,rfl,s3⟩
   ·refine⟨_,rfl,_,_,rfl,rfl,(by show(0:Int)<_;decide),rfl,_,rfl,?_⟩;refine br (fun h2=>?_) (fun h2=>?_)
    ·refine⟨_,rfl,_,rfl,_,_,rfl,rfl,aB rfl,fun t ht=>?_⟩;have s3:=s2.trans (ao.upd (o:=.tup [.int 0,.int ((w:Int)-1)]) ht);refine⟨t,_,rfl,.inr (SqT.of af),rfl,rfl,_,rfl,?_⟩;refine br (fun h3=>?_) (fun h3=>?_)
     ·exact⟨_,rfl,s3⟩
     ·refine⟨_,rfl,_,rfl,_,_,rfl,rfl,aB rfl,fun t2 ht2=>?_⟩;have s4:=s3.trans (ao.upd (o:=.tup [.int 0,.int ((h:Int)-1)]) ht2);refine⟨t2,_,rfl,.inr (SqT.of af),rfl,rfl,?_⟩;exact⟨_,rfl,s4⟩
    ·refine⟨_,rfl,_,rfl,_,_,rfl,rfl,_,_,rfl,rfl,(by show(0:Int)<_;decide),_,rfl,_,_,rfl,rfl,⟨by decide,by decide⟩,_,_,rfl,rfl,(by show(0:Int)<_;decide),rfl,?_⟩;exact⟨_,rfl,s2⟩
  ·rintro σ' H' ⟨b,rfl,s5⟩;refine⟨_,rfl,_,rfl,_,rfl,_,_,rfl,rfl,⟨by decide,by decide⟩,_,rfl,_,rfl,_,_,rfl,rfl,.inl ⟨by omega,by omega⟩,_,_,rfl,rfl,(by rw[e1];omega),rfl,rfl,_,rfl,?_⟩;refine br (fun h9=>?_) (fun h9=>?_)
   ·refine⟨_,rfl,_,rfl,_,_,rfl,rfl,⟨by omega,by omega,by decide⟩,_,_,rfl,rfl,?_⟩;exact⟨_,_,_,_,_,rfl,s5⟩
   ·exact⟨_,_,_,_,_,rfl,s5⟩
 ·rintro σ H2 ⟨v,o4,o5,o6,o7,rfl,s2⟩;exact⟨_,rfl,q _ _ s2⟩
def gD(K:Frag):Sp:=fun vs H Q _=>∃(c k:Nat),vs=[.int c,.int k]/\k<=64/\Q (.bl (c.testBit k)) H
variable(bB:Df P w K mg base 1 "_law_has" ["_law_ground_here","_law_cell"] (gD K))
theorem kQ:aE ["_law_ground_here","_law_cell"] ["_law_ground_here","_law_cell"] (au (top 20)):=by trivial
include B in
theorem lg(T:Tx K mg "_law_has" (top 20) ["_law_ground_here","_law_cell"]):Df P w K mg base 1 "_law_has" ["_law_ground_here","_law_cell"] (gD K):=by refine T.df kQ (by rintro _ _ _ _ ⟨c,k,rfl,hk,q⟩;rfl) ?_;rintro f _ A _ s H _ Q E hr ⟨c,k,rfl,hk,q⟩;refine⟨_,(ai (aD (aY cq (aj bp (aj n9 (pv 0) (aj e8 ab (pv 1))) ab) ab (aF _)))),?_⟩;refine⟨_,rfl,_,rfl,_,_,rfl,rfl,⟨by omega,by omega,by decide⟩,_,_,rfl,rfl,⟨jY _,pP k hk⟩,_,_,rfl,rfl,(by show(0:Int)<_;decide),rfl,?_⟩;rw[qg c k];exact q
def gg(K:Frag):Sp:=fun vs H Q _=>∃(a:Addr)(R:List LO.Pt),vs=[.ref a]/\dQ K H a R/\(∀p∈R,-20<=p.1/\p.1<=20/\ -20<=p.2/\p.2<=20)/\R.length<=256/\Q (.int (LO.gn R)) H
variable(dN:Df P w K mg base 1 "_law_area" ["_law_ring"] (gg K))
theorem b6:aE ["_law_ring","_law_total","_law_k","_law_one","_law_other"] ["_law_ring"] (au (top 24)):=by trivial
include B in
theorem j6(T:Tx K mg "_law_area" (top 24) ["_law_ring"]):Df P w K mg base 1 "_law_area" ["_law_ring"] (gg K):=by
 refine T.df b6 (by rintro _ _ _ _ ⟨a,R,rfl,hx,pb,lR,q⟩;rfl) ?_;rintro f _ A _ s H _ Q E hr ⟨a,R,rfl,hx,pb,lR,q⟩;refine aZ ?_;intro kX;refine ah 2 (ai (aD (pv 1))) ?_;intro kR2 pR2;refine aC 1 2 (ai (aq (i:=1) b6.nd rfl (by trivial) (aj aT (aj aO (pv 1) (aj cf (av ay (pv 3) ab (fun _ _=>rfl)) (av ay (pv 4) ab (fun _ _=>rfl)))) (aj cf (av ay (pv 4) ab (fun _ _=>rfl)) (av ay (pv 3) ab (fun _ _=>rfl)))))) ?_;intro kS1x2 pS1x2;refine aC 1 1 (ag (aq (i:=4) b6.nd rfl (by trivial) (av aV (pv 0) (pv 2) (fun _ _=>rfl))) pS1x2) ?_;intro kS1x1 pS1x1;refine aC 1 0 (ag (aq (i:=3) b6.nd rfl (by trivial) (av aV (pv 0) (aj aT (pv 2) ab) (fun _ _=>rfl))) pS1x1) ?_;intro kS1x0 pS1x0;refine ah 1 (ag (cc vk rfl (bN (by rfl) B.range (aa (aM a7 (by rfl) B.len PySem.boot_len (aa (pv 0) ae)) ae)) (aR (i:=2) b6.nd rfl (by trivial)) pS1x0) pR2) ?_;intro kR1 pR1;refine⟨_,(ag (aq (i:=1) b6.nd rfl (by trivial) ab) pR1),?_⟩;obtain⟨xs,hx,px⟩:=hx;have lx:xs.length=R.length:=uL px;refine⟨_,rfl,a,xs,rfl,.inl (SqL.of hx),_,rfl,by omega,by omega,?_⟩;rw[vb];refine cU (lo:=0) (n:=xs.length) (fun i σ H2=>∃(o2 o3 o4:Option V),σ=[some (.ref a),some (.int (LO.cM (·+·) 0 LO.cro (LO.lstP R) (R.take i))),o2,o3,o4]/\H2=H) ⟨none,none,none,rfl,rfl⟩ ?_ ?_
 ·rintro i σ H2 hi ⟨o2,o3,o4,rfl,rfl⟩;rw[show(0:Int)+(i:Int)=((i:Nat):Int) by omega];refine dD ?_;intro kD1;have hi':xs[i]?=some xs[i]:=uq hi;obtain⟨v',q1,q0,a1,hq1,⟨b,eb,hb⟩,hq0,⟨b',rfl,hb'⟩⟩:=de px hi';have st:=LO.jW (op:=(·+·)) (u:=(0:Int)) (f:=LO.cro) (fun _ _ _=>Int.add_assoc ..) (fun _=>Int.zero_add _) (fun _=>Int.add_zero _) hq1 hq0;have mq1:q1∈R:=uF hq1;have mq0:q0∈R:=by
   cases e:(R.take i).getLast? with
   |some x=>rw[e]at hq0;cases hq0;exact vj (List.mem_of_getLast? e)
   |none=>rw[e]at hq0;exact List.mem_of_getLast? hq0
  have b1:=pb q1 mq1;have b0:=pb q0 mq0;rw[eb]at hi';refine⟨_,rfl,_,rfl,_,_,rfl,rfl,a,_,_,_,rfl,rfl,SqL.of hx,a1,?_⟩;refine⟨_,rfl,_,rfl,a,_,_,_,rfl,rfl,SqL.of hx,ak hi',?_⟩;refine⟨_,rfl,_,rfl,b',_,_,_,rfl,rfl,hb',ak (j:=0) rfl,_,rfl,b,_,_,_,rfl,rfl,hb,ak (j:=1) rfl,_,_,rfl,rfl,.inl ⟨by omega,by omega⟩,_,_,rfl,rfl,_,rfl,b,_,_,_,rfl,rfl,hb,ak (j:=0) rfl,_,rfl,b',_,_,_,rfl,rfl,hb',ak (j:=1) rfl,_,_,rfl,rfl,.inl ⟨by omega,by omega⟩,_,_,rfl,rfl,?_⟩;refine⟨some (.int (i:Nat)),some (.ref b'),some (.ref b),?_,rfl⟩;show[_,some (V.int (LO.cM (·+·) 0 LO.cro (LO.lstP R) (R.take i)+q0.1*q1.2-q1.1*q0.2)),_,_,_]=_;rw[st,Int.add_sub_assoc];rfl
 ·rintro σ H2 ⟨o2,o3,o4,rfl,rfl⟩;refine⟨_,rfl,?_⟩;rw[lx,vl];unfold LO.gn at q;rw[LO.jR]at q;exact q
def dW(K:Frag):Sp:=fun vs H Q _=>∃(a b:Addr)(p r:LO.Pt),vs=[.ref a,.ref b]/\SqT K H a [.int p.1,.int p.2]/\SqT K H b [.int r.1,.int r.2]/\∀l H',ao H H'->SqT K H' l [.int (LO.sgn p.1 r.1),.int (LO.sgn p.2 r.2)]->Q (.ref l) H'
variable(a9:Df P w K mg base 1 "_law_heading" ["_law_one","_law_other"] (dW K))
theorem cV:aE ["_law_one","_law_other","_law_x","_law_y"] ["_law_one","_law_other"] (au (top 27)):=by trivial
include B in
theorem gT(T:Tx K mg "_law_heading" (top 27) ["_law_one","_law_other"]):Df P w K mg base 1 "_law_heading" ["_law_one","_law_other"] (dW K):=by
 refine T.df cV (by rintro _ _ _ _ ⟨a,b,p,r,rfl,ha,hb,q⟩;rfl) ?_;rintro f _ A _ s H _ Q E hr ⟨a,b,p,r,rfl,ha,hb,q⟩;refine aZ ?_;intro kX;refine ah 2 (ai (aD (aH (aa (pv 2) (aa (pv 3) ae))))) ?_;intro kR2 pR2;refine ah 1 (ag (aq (i:=3) cV.nd rfl (by trivial) (aj aT (cT eM (by rfl) B.int boot_int (aa (aY n8 (av ay (pv 1) ab (fun _ _=>rfl)) (av ay (pv 0) ab (fun _ _=>rfl)) (aF _)) ae)) (cT eM (by rfl) B.int boot_int (aa (aY gQ (av ay (pv 1) ab (fun _ _=>rfl)) (av ay (pv 0) ab (fun _ _=>rfl)) (aF _)) ae)))) pR2) ?_;intro kR1 pR1;refine⟨_,(ag (aq (i:=2) cV.nd rfl (by trivial) (aj aT (cT eM (by rfl) B.int boot_int (aa (aY n8 (av ay (pv 1) ab (fun _ _=>rfl)) (av ay (pv 0) ab (fun _ _=>rfl)) (aF _)) ae)) (cT eM (by rfl) B.int boot_int (aa (aY gQ (av ay (pv 1) ab (fun _ _=>rfl)) (av ay (pv 0) ab (fun _ _=>rfl)) (aF _)) ae)))) pR1),?_⟩;refine⟨_,rfl,b,_,_,_,rfl,rfl,hb,ak (j:=0) rfl,_,rfl,a,_,_,_,rfl,rfl,ha,ak (j:=0) rfl,_,_,rfl,rfl,.inr ⟨_,rfl,_,rfl,b,_,_,_,rfl,rfl,hb,ak (j:=0) rfl,_,rfl,a,_,_,_,rfl,rfl,ha,ak (j:=0) rfl,_,_,rfl,rfl,.inr ⟨_,rfl,_,_,rfl,rfl,?_⟩⟩⟩;refine⟨_,rfl,b,_,_,_,rfl,rfl,hb,ak (j:=1) rfl,_,rfl,a,_,_,_,rfl,rfl,ha,ak (j:=1) rfl,_,_,rfl,rfl,.inr ⟨_,rfl,_,rfl,b,_,_,_,rfl,rfl,hb,ak (j:=1) rfl,_,rfl,a,_,_,_,rfl,rfl,ha,ak (j:=1) rfl,_,_,rfl,rfl,.inr ⟨_,rfl,_,_,rfl,rfl,?_⟩⟩⟩;refine⟨_,rfl,_,rfl,aB rfl,fun l hl=>?_⟩;refine q l _ (ao.upd hl) (sq2 (SqT.of af) ?_ ?_)
 ·show(if decide (p.1<r.1)=true then(1:Int)else 0)-(if decide (r.1<p.1)=true then 1 else 0)=LO.sgn p.1 r.1;unfold LO.sgn;simp only[uH]
 ·show(if decide (p.2<r.2)=true then(1:Int)else 0)-(if decide (r.2<p.2)=true then 1 else 0)=LO.sgn p.2 r.2;unfold LO.sgn;simp only[uH]
def iC(K:Frag):Sp:=fun vs H Q _=>∃(c:Nat),vs=[.int c]/\c<2^64/\∀l,H l=none->Q (.ref l) (upd H l (.lst ((cn c).map fun k:Nat=>V.int (k:Int))))
variable(fO:Df P w K mg base 2 "listed" ["cells"] (iC K))
theorem mS:aE ["cells"] ["cells"] (au (top 2)):=by trivial
include B mF in
theorem m7(T:Tx K mg "listed" (top 2) ["cells"]):Df P w K mg base 2 "listed" ["cells"] (iC K):=by
 refine T.df mS (by rintro _ _ _ _ ⟨c,rfl,hc,q⟩;rfl) ?_;rintro f _ A _ s H _ Q E hr ⟨c,rfl,hc,q⟩;refine⟨_,(ai (aD (dC ["cell"] [("cells",0)] (gr _ ["cells"]) rfl (by rfl) rfl (by trivial) (by trivial) (bI (by rfl)) (ff (by rfl)) (mC ⟨rfl,rfl⟩ mN) (mC rfl mN) (eg (by decide)) (bN (by rfl) B.range (aa (rp PySem.F.plainAttrs_int PySem.F.slot_int_bit_length PySem.F.type_int_bit_length p8 (pv 0)) ae)) (fun _ _ _ _=>aR (i:=0) (show(["cell","cells"]:List Str).Nodup by trivial) rfl (Or.inl rfl) (Or.inr rfl)) (fun _ _ _ _=>fG (bj (aJ mF hr (aa (pv 1) (aa (pv 0) ae))))) (fun _ _ _ _=>(pv 0))))),?_⟩;have hb:=bits_le hc;refine⟨_,rfl,rfl,_,rfl,rfl,_,rfl,by omega,by omega,fun D hD=>?_⟩;refine hC (fun i acc H2=>H2=upd H D (.lst acc)/\acc=((List.range i).filter c.testBit).map fun k:Nat=>V.int (k:Int)) ⟨rfl,rfl⟩ ?_ ?_
 ·rintro i acc H2 hi ⟨rfl,rfl⟩;refine iO ?_;intro kq1 kr1;have hi':i<Builtin.Int.intBits (c:Int):=by simpa using hi
  refine⟨_,rfl,_,rfl,c,_,rfl,_,rfl,?_⟩;rw[mX];refine br (fun hb=>?_) (fun hb=>?_)
  ·refine⟨_,rfl,af,?_,?_,?_⟩
   ·rw[uj];exact Nat.lt_of_le_of_lt (vS (List.length_filter_le _ _) (by rw[vG];omega)) (bf (by decide:64<=1000))
   ·rw[pC]
   ·rw[List.range_succ,vK,List.map_append];simp[hb]
  ·refine⟨rfl,?_⟩;rw[List.range_succ,vK,List.map_append];simp[hb]
 ·rintro acc H2 ⟨rfl,rfl⟩;have e:((Builtin.Int.intBits (c:Int):Nat):Int).toNat=Builtin.Int.intBits (c:Int):=by simp
  rw[e,lP hc];exact q D hD
def dS(K:Frag):Sp:=fun vs H Q _=>∃(a:Addr)(w h k:Nat),vs=[.ref a,.int (k:Nat)]/\SqT K H a [.int (w:Nat),.int (h:Nat)]/\(0<w/\w<=8)/\∀l vs H',ao H H'->H' l=some (.lst vs)->Paired (aN K H') vs (LO.eN ((k % w:Nat):Int) ((k / w:Nat):Int))->Q (.ref l) H'
variable(cE:Df P w K mg base 2 "sides_round" ["floor","cell"] (dS K))
theorem b8:aE ["floor","cell","left","low","corners"] ["floor","cell"] (au (top 6)):=by trivial
include B dv fN in
theorem gR(T:Tx K mg "sides_round" (top 6) ["floor","cell"]):Df P w K mg base 2 "sides_round" ["floor","cell"] (dS K):=by
 refine T.df b8 (by rintro _ _ _ _ ⟨a,w,h,k,rfl,hT,⟨hw,hw8⟩,q⟩;rfl) ?_;rintro f _ A _ s H _ Q E hr ⟨a,w,h,k,rfl,hT,⟨hw,hw8⟩,q⟩;refine aZ ?_;intro kX;refine ah 3 (ai (aD (dC ["place"] [("corners",4)] (gr _ ["corners"]) rfl (by rfl) rfl (by trivial) (by trivial) (bI (by rfl)) (ff (by rfl)) (mC ⟨rfl,rfl⟩ mN) (mC rfl mN) (eg (by decide)) (bN (by rfl) B.range (aa ab ae)) (fun _ _ _ _=>aR (i:=0) (show(["place","corners"]:List Str).Nodup by trivial) rfl (Or.inl rfl) (Or.inr rfl)) (fun _ _ _ _=>gO) (fun _ _ _ _=>(aH (aa (av (g7 (K:=K) rfl) (pv 1) (aj aT (pv 0) ab) (fun _ _=>rfl)) (aa (av (g7 (K:=K) rfl) (pv 1) (pv 0) (fun _ _=>rfl)) ae))))))) ?_;intro kR3 pR3;refine ah 2 (ag (aq (i:=4) b8.nd rfl (by trivial) (d8 (aa (aH (aa (pv 2) (aa (pv 3) ae))) (aa (aH (aa (aj aO (pv 2) ab) (aa (pv 3) ae))) (aa (aH (aa (aj aO (pv 2) ab) (aa (aj aO (pv 3) ab) ae))) (aa (aH (aa (pv 2) (aa (aj aO (pv 3) ab) ae))) ae)))))) pR3) ?_;intro kR2 pR2;refine ah 1 (ag (aq (i:=3) b8.nd rfl (by trivial) (aJ fN hr (aa (pv 0) (aa (pv 1) ae)))) pR2) ?_;intro kR1 pR1;refine⟨_,(ag (aq (i:=2) b8.nd rfl (by trivial) (aJ dv hr (aa (pv 0) (aa (pv 1) ae)))) pR1),?_⟩;refine⟨_,rfl,_,rfl,a,w,h,k,rfl,hT,⟨by omega,by omega⟩,?_⟩;refine⟨_,rfl,_,rfl,a,w,h,k,rfl,hT,⟨by omega,by omega⟩,?_⟩;obtain⟨x,ex⟩:∃x:Int,x=((k % w:Nat):Int):=⟨_,rfl⟩;obtain⟨y,ey⟩:∃y:Int,y=((k / w:Nat):Int):=⟨_,rfl⟩;have e1:((k:Nat):Int) % ((w:Nat):Int)=x:=by rw[ex];rfl
 have e2:((k:Nat):Int) / ((w:Nat):Int)=y:=by rw[ey];rfl
 rw[<-ex,<-ey]at q;simp only[e1,e2];refine⟨_,rfl,_,rfl,aB rfl,fun t1 ht1=>?_⟩;have u1:=ao.upd (o:=.tup [.int x,.int y]) ht1;have k1:SqT K (upd H t1 (.tup [.int x,.int y])) t1 [.int x,.int y]:=SqT.of af;generalize (upd H t1 (.tup [.int x,.int y]))=H1 at u1 k1 ⊢;refine⟨_,rfl,_,_,rfl,rfl,_,rfl,aB rfl,fun t2 ht2=>?_⟩;have u2:=ao.upd (o:=.tup [.int (x+1),.int y]) ht2;have k2:SqT K (upd H1 t2 (.tup [.int (x+1),.int y])) t2 [.int (x+1),.int y]:=SqT.of af;generalize (upd H1 t2 (.tup [.int (x+1),.int y]))=H2 at u2 k2 ⊢;refine⟨_,rfl,_,_,rfl,rfl,_,rfl,_,_,rfl,rfl,aB rfl,fun t3 ht3=>?_⟩;have u3:=ao.upd (o:=.tup [.int (x+1),.int (y+1)]) ht3;have k3:SqT K (upd H2 t3 (.tup [.int (x+1),.int (y+1)])) t3 [.int (x+1),.int (y+1)]:=SqT.of af;generalize (upd H2 t3 (.tup [.int (x+1),.int (y+1)]))=H3 at u3 k3 ⊢;refine⟨_,rfl,_,rfl,_,_,rfl,rfl,aB rfl,fun t4 ht4=>?_⟩;have u4:=ao.upd (o:=.tup [.int x,.int (y+1)]) ht4;have k4:SqT K (upd H3 t4 (.tup [.int x,.int (y+1)])) t4 [.int x,.int (y+1)]:=SqT.of af;generalize (upd H3 t4 (.tup [.int x,.int (y+1)]))=H4 at u4 k4 ⊢;refine⟨aB rfl,fun lc hlc=>?_⟩;have u5:=ao.upd (o:=.lst [.ref t1,.ref t2,.ref t3,.ref t4]) hlc;have k5:(upd H4 lc (.lst [.ref t1,.ref t2,.ref t3,.ref t4])) lc=some (.lst [.ref t1,.ref t2,.ref t3,.ref t4]):=af;have z1:=(u2.trans (u3.trans (u4.trans u5))).tup k1;have z2:=(u3.trans (u4.trans u5)).tup k2;have z3:=(u4.trans u5).tup k3;have z4:=u5.tup k4;have s5:=u1.trans (u2.trans (u3.trans (u4.trans u5)));generalize (upd H4 lc (.lst [.ref t1,.ref t2,.ref t3,.ref t4]))=H5 at k5 z1 z2 z3 z4 s5 ⊢;refine⟨4,rfl,by decide,by decide,fun D hD=>?_⟩;refine qO (n:=4) (lo:=0) (fun i acc H6=>ao H5 H6/\H6 D=some (.lst acc)/\Paired (aN K H6) acc ((LO.eN x y).take i)) ⟨ao.upd hD,af,.nil⟩ ?_ ?_
 ·rintro i acc H6 hi ⟨s6,h6,pr⟩;rw[show(0:Int)+(i:Int)=((i:Nat):Int) by omega];refine iO ?_;intro kq1 kr1;obtain⟨p,r,s,a1,a2,a3,a4,a5⟩:∃p r s,atI [V.ref t1,.ref t2,.ref t3,.ref t4] (((i:Nat):Int)-1)=some (.ref p)/\atI [V.ref t1,.ref t2,.ref t3,.ref t4] ((i:Nat):Int)=some (.ref r)/\(LO.eN x y)[i]?=some s/\SqT K H5 p [.int s.x,.int s.y]/\SqT K H5 r [.int s.ex,.int s.ey]:=by
   match i,hi with
   | 0,_=>exact⟨t4,t1,_,rfl,rfl,rfl,z4,sq2 z1 (by show x=x+0;omega) (by show y=y+1+ -1;omega)⟩
   | 1,_=>exact⟨t1,t2,_,rfl,rfl,rfl,z1,sq2 z2 rfl (by show y=y+0;omega)⟩
   | 2,_=>exact⟨t2,t3,_,rfl,rfl,rfl,z2,sq2 z3 (by show x+1=x+1+0;omega) rfl⟩
   | 3,_=>exact⟨t3,t4,_,rfl,rfl,rfl,z3,sq2 z4 (by show x=x+1+ -1;omega) (by show y+1=y+1+0;omega)⟩
  have lacc:acc.length<sizeLine:=by rw[uL pr,uG];exact bf (by omega)
  refine⟨_,rfl,_,rfl,_,_,rfl,rfl,lc,_,_,_,rfl,rfl,SqL.of (s6 _ _ k5),a1,_,rfl,_,rfl,lc,_,_,_,rfl,rfl,SqL.of (s6 _ _ k5),a2,aB rfl,fun t ht=>?_⟩;have s7:=ao.upd (o:=.tup [.ref p,.ref r]) ht;have tk2:=TK.lst (o:=.lst (acc++[.ref t])) (s7 _ _ h6);refine⟨s7 _ _ h6,lacc,fun b5 o5 e5=>?_,af,?_⟩
  ·rw[ax (fun z=>by rw[z,hD]at e5;cases e5)];exact s7 _ _ (s6 _ _ e5)
  ·rw[uM,a3,uS];exact Paired.app (Paired.imp (fun _ _ z=>(z.tk s7.tk).tk tk2) pr) (.cons (aN.tk tk2 ⟨t,rfl,p,r,SqT.of af,(s6.trans s7).tup a4,(s6.trans s7).tup a5⟩) .nil)
 rintro acc H6 ⟨s6,h6,pr⟩;exact q D acc H6 (s5.trans s6) h6 pr
def dU(K:Frag)(P:Program)(w:World):Sp:=fun vs H Q _=>∃(d b:Addr)(o:Obj)(T:CT)(s:LO.Sd)(G:LO.Gr),vs=[.ref d,.ref b]/\cu P w K H d o T/\(∀t,(L2.atT T (aK t)).isSome=LO.brd G t)/\LT.cC K H b s/\LO.brd G s=true/\∀c H',ao H H'->LT.cC K H' c (LO.nxt G s)->Q (.ref c) H'
variable(bS:Df P w K mg base 2 "side_behind" ["known","side"] (dU K P w))
theorem aW:aE ["known","side","x","y","over","up","to_left","straight","to_right"] ["known","side"] (au (top 9)):=by trivial
include B bO in
theorem gS(T:Tx K mg "side_behind" (top 9) ["known","side"]):Df P w K mg base 2 "side_behind" ["known","side"] (dU K P w):=by
 refine T.df aW (by rintro _ _ _ _ ⟨d,b,o,T,s,G,rfl,hA,hm,hs,hb,q⟩;rfl) ?_;rintro f _ A _ s H _ Q E hr ⟨d,b,o,T,s,G,rfl,hA,hm,hs,hb,q⟩;have hu:=hr.units;refine aZ ?_;intro kX;refine ah 9 (ai (aD (pv 8))) ?_;intro kR9 pR9;refine ah 8 (ag (bh (i9 (n4 hu (pv 7) (pv 0))) (ai (aD (pv 7))) aL) pR9) ?_;intro kR8 pR8;refine ah 7 (ag (bh (i9 (n4 hu (pv 6) (pv 0))) (ai (aD (pv 6))) aL) pR8) ?_;intro kR7 pR7;refine ah 6 (ag (aq (i:=8) aW.nd rfl (by trivial) (aH (aa (aH (aa (pv 2) (aa (pv 3) ae))) (aa (aH (aa (aj aO (pv 2) (pv 5)) (aa (aj aT (pv 3) (pv 4)) ae))) ae)))) pR7) ?_;intro kR6 pR6;refine ah 5 (ag (aq (i:=7) aW.nd rfl (by trivial) (aH (aa (aH (aa (pv 2) (aa (pv 3) ae))) (aa (aH (aa (aj aO (pv 2) (pv 4)) (aa (aj aO (pv 3) (pv 5)) ae))) ae)))) pR6) ?_;intro kR5 pR5;refine ah 4 (ag (aq (i:=6) aW.nd rfl (by trivial) (aH (aa (aH (aa (pv 2) (aa (pv 3) ae))) (aa (aH (aa (aj aT (pv 2) (pv 5)) (aa (aj aO (pv 3) (pv 4)) ae))) ae)))) pR5) ?_;intro kR4 pR4;refine ah 3 (ag (aq (i:=5) aW.nd rfl (by trivial) (av ay (aJ bO hr (aa (pv 1) ae)) ab (fun _ _=>rfl))) pR4) ?_;intro kR3 pR3;refine ah 2 (ag (aq (i:=4) aW.nd rfl (by trivial) (av ay (aJ bO hr (aa (pv 1) ae)) ab (fun _ _=>rfl))) pR3) ?_;intro kR2 pR2;refine ah 1 (ag (aq (i:=3) aW.nd rfl (by trivial) (av ay (av ay (pv 1) ab (fun _ _=>rfl)) ab (fun _ _=>rfl))) pR2) ?_;intro kR1 pR1;refine⟨_,(ag (aq (i:=2) aW.nd rfl (by trivial) (av ay (av ay (pv 1) ab (fun _ _=>rfl)) ab (fun _ _=>rfl))) pR1),?_⟩;obtain⟨p,r,h1,h2,h3⟩:=id hs;refine⟨_,rfl,b,_,_,_,rfl,rfl,h1,ak (j:=1) rfl,r,_,_,_,rfl,rfl,h3,ak (j:=0) rfl,?_⟩;refine⟨_,rfl,b,_,_,_,rfl,rfl,h1,ak (j:=1) rfl,r,_,_,_,rfl,rfl,h3,ak (j:=1) rfl,?_⟩;refine⟨_,rfl,b,s,rfl,hs,fun ls H1 s1 hls=>⟨ls,_,_,_,rfl,rfl,hls,ak (j:=0) rfl,?_⟩⟩;refine⟨_,rfl,b,s,rfl,aS s1.tk hs,fun ls' H1' s1' hls'=>?_⟩;replace s1:=s1.trans s1';clear hls s1';refine⟨ls',_,_,_,rfl,rfl,hls',ak (j:=1) rfl,?_⟩;generalize H1'=H1 at s1 hls';refine⟨_,rfl,_,rfl,aB rfl,fun p1 hp1=>?_⟩;have v1:=ao.upd (o:=.tup [.int s.ex,.int s.ey]) hp1;refine⟨_,rfl,_,rfl,_,_,rfl,rfl,_,rfl,_,rfl,_,_,rfl,rfl,aB rfl,fun p2 hp2=>?_⟩;have v2:=ao.upd (o:=.tup [.int (s.ex-s.d.dy),.int (s.ey+s.d.dx)]) hp2;refine⟨aB rfl,fun p3 hp3=>?_⟩;have v3:=ao.upd (o:=.tup [.ref p1,.ref p2]) hp3;have L3:LT.cC K _ p3 ⟨s.ex,s.ey,s.d.lf⟩:=⟨p1,p2,SqT.of af,(v2.trans v3).tup (SqT.of af),v3.tup (sq2 (SqT.of af) (by cases s.d<;>simp[LO.Sd.ex,LO.Dr.lf,LO.Dr.dx,LO.Dr.dy]<;>omega) (by cases s.d<;>simp[LO.Sd.ey,LO.Dr.lf,LO.Dr.dx,LO.Dr.dy]<;>omega))⟩;have s3:=s1.trans (v1.trans (v2.trans v3));generalize (upd (upd (upd H1 p1 (.tup [.int s.ex,.int s.ey])) p2 (.tup [.int (s.ex-s.d.dy),.int (s.ey+s.d.dx)])) p3 (.tup [.ref p1,.ref p2]))=H3 at L3 s3 ⊢;clear v1 v2 v3;refine⟨_,rfl,_,rfl,aB rfl,fun q1 hq1=>?_⟩;have v1:=ao.upd (o:=.tup [.int s.ex,.int s.ey]) hq1;refine⟨_,rfl,_,rfl,_,_,rfl,rfl,_,rfl,_,rfl,_,_,rfl,rfl,aB rfl,fun q2 hq2=>?_⟩;have v2:=ao.upd (o:=.tup [.int (s.ex+s.d.dx),.int (s.ey+s.d.dy)]) hq2;refine⟨aB rfl,fun q3 hq3=>?_⟩;have v3:=ao.upd (o:=.tup [.ref q1,.ref q2]) hq3;have L4:LT.cC K _ q3 ⟨s.ex,s.ey,s.d⟩:=⟨q1,q2,SqT.of af,(v2.trans v3).tup (SqT.of af),v3.tup (SqT.of af)⟩;have v13:=v1.trans (v2.trans v3);have s4:=s3.trans v13;have L34:=aS v13.tk L3;generalize (upd (upd (upd H3 q1 (.tup [.int s.ex,.int s.ey])) q2 (.tup [.int (s.ex+s.d.dx),.int (s.ey+s.d.dy)])) q3 (.tup [.ref q1,.ref q2]))=H4 at L4 L34 s4 ⊢;clear v1 v2 v3 v13 L3;refine⟨_,rfl,_,rfl,aB rfl,fun r1 hr1=>?_⟩;have v1:=ao.upd (o:=.tup [.int s.ex,.int s.ey]) hr1;refine⟨_,rfl,_,rfl,_,_,rfl,rfl,_,rfl,_,rfl,_,_,rfl,rfl,aB rfl,fun r2 hr2=>?_⟩;have v2:=ao.upd (o:=.tup [.int (s.ex+s.d.dy),.int (s.ey-s.d.dx)]) hr2;refine⟨aB rfl,fun r3 hr3=>?_⟩;have v3:=ao.upd (o:=.tup [.ref r1,.ref r2]) hr3;have L5:LT.cC K _ r3 ⟨s.ex,s.ey,s.d.rt⟩:=⟨r1,r2,SqT.of af,(v2.trans v3).tup (SqT.of af),v3.tup (sq2 (SqT.of af) (by cases s.d<;>simp[LO.Sd.ex,LO.Dr.rt,LO.Dr.dx,LO.Dr.dy]<;>omega) (by cases s.d<;>simp[LO.Sd.ey,LO.Dr.rt,LO.Dr.dx,LO.Dr.dy]<;>omega))⟩;have v13:=v1.trans (v2.trans v3);have s5:=s4.trans v13;have L35:=aS v13.tk L34;have L45:=aS v13.tk L4;generalize (upd (upd (upd H4 r1 (.tup [.int s.ex,.int s.ey])) r2 (.tup [.int (s.ex+s.d.dy),.int (s.ey-s.d.dx)])) r3 (.tup [.ref r1,.ref r2]))=H5 at L5 L45 L35 s5 ⊢;clear v1 v2 v3 v13 L34 L4;have hA5:cu P w K H5 d o T:=⟨s5 _ _ hA.1,hA.2.1,hA.2.2.1,fun t ht=>(hA.2.2.2 t ht).tk s5.tk⟩;have en:LO.nxt G s=if LO.brd G ⟨s.ex,s.ey,s.d.lf⟩=true then⟨s.ex,s.ey,s.d.lf⟩else if LO.brd G ⟨s.ex,s.ey,s.d⟩=true then⟨s.ex,s.ey,s.d⟩else⟨s.ex,s.ey,s.d.rt⟩:=rfl
 refine⟨_,rfl,_,rfl,d,o,T,p3,_,rfl,hA5,rfl,bK L35,_,rfl,?_⟩;rw[hm];refine br (fun z=>?_) (fun z=>?_)
 ·replace z:LO.brd G ⟨s.ex,s.ey,s.d.lf⟩=true:=z;rw[en,um z]at q;exact⟨_,rfl,q p3 _ s5 L35⟩
 replace z:¬LO.brd G ⟨s.ex,s.ey,s.d.lf⟩=true:=z;refine⟨_,rfl,_,rfl,d,o,T,q3,_,rfl,hA5,rfl,bK L45,_,rfl,?_⟩;rw[hm];refine br (fun z'=>?_) (fun z'=>?_)
 ·replace z':LO.brd G ⟨s.ex,s.ey,s.d⟩=true:=z';rw[en,uo z,um z']at q;exact⟨_,rfl,q q3 _ s5 L45⟩
 ·replace z':¬LO.brd G ⟨s.ex,s.ey,s.d⟩=true:=z';rw[en,uo z,uo z']at q;exact⟨_,rfl,q r3 _ s5 L5⟩
def eT(K:Frag):Sp:=fun vs H Q _=>∃(a:Addr)(xs:List V)(W:List LO.Sd),vs=[.ref a]/\H a=some (.lst xs)/\Paired (aN K H) xs W/\W.length<=256/\∀l ys H',H l=none->ao H H'->H' l=some (.lst ys)->Paired (PtE K H') ys (LO.aI W)->Q (.ref l) H'
variable(cS:Df P w K mg base 2 "corners_of" ["walk"] (eT K))
theorem ic:aE ["walk"] ["walk"] (au (top 11)):=by trivial
include B bO in
theorem ir(T:Tx K mg "corners_of" (top 11) ["walk"]):Df P w K mg base 2 "corners_of" ["walk"] (eT K):=by
 refine T.df ic (by rintro _ _ _ _ ⟨a,xs,W,rfl,hx,pw,l256,q⟩;rfl) ?_;rintro f _ A _ s H _ Q E hr ⟨a,xs,W,rfl,hx,pw,l256,q⟩;have hu:=hr.units;refine⟨_,(ai (aD (dC ["place","side"] [("walk",0)] (gr _ ["walk"]) rfl (by rfl) rfl (by trivial) (by trivial) (bI (by rfl)) (ff (by rfl)) (mC ⟨rfl,rfl⟩ mN) (mC rfl mN) (pq (by decide) (by decide) (by decide)) (jZ (by rfl) B.enumerate (aa (pv 0) ae)) (fun _ _ _ _=>pQ (K:=K) rfl rfl (fH (aR (i:=0) (show(["place","side","walk"]:List Str).Nodup by trivial) rfl (Or.inl rfl) (Or.inr rfl)) (fH (aR (i:=1) (show(["place","side","walk"]:List Str).Nodup by trivial) rfl (Or.inl rfl) (Or.inr rfl)) me))) (fun _ _ _ _=>fG (aU (pX (K:=K) rfl hu) (aJ bO hr (aa (pv 1) ae)) (aJ bO hr (aa (av (g7 (K:=K) rfl) (pv 2) (aj aT (pv 0) ab) (fun _ _=>rfl)) ae)) (aF _))) (fun _ _ _ _=>(av (gy (K:=K) rfl) (pv 1) ab (fun _ _=>rfl)))))),?_⟩;refine⟨_,rfl,a,rfl,⟨_,SqL.of hx⟩,fun D hD=>?_⟩;refine tG (K:=K) (a:=a) (xs:=xs) (fun i acc H6=>ao H H6/\H6 D=some (.lst acc)/\Paired (PtE K H6) acc (LO.cor ((W.getLast?.map (fun s=>s.d)).getD .e) (W.take i))) ⟨ao.upd hD,af,.nil⟩ (fun i acc H6 _ z=>SqL.of (z.1 _ _ hx)) ?_ ?_
 ·rintro i v acc H6 N hi ⟨s6,h6,pr⟩ hN;obtain⟨v',sd,td,a1,hsd,⟨b,rfl,hs⟩,hl,⟨b',rfl,hs'⟩⟩:=de pw hi;have u7:=ao.upd (o:=.tup [.int (i:Nat),.ref b]) hN;have k7:SqT K (upd H6 N (.tup [.int (i:Nat),.ref b])) N [.int (i:Nat),.ref b]:=SqT.of af;have s7:=s6.trans u7;have h7:=u7 _ _ h6;have pr7:=Paired.imp (fun _ _ z=>PtE.tk u7.tk z) pr;generalize (upd H6 N (.tup [.int (i:Nat),.ref b]))=H7 at u7 k7 s7 h7 pr7 ⊢;refine⟨N,_,rfl,k7,rfl,_,_,rfl,_,_,rfl,rfl,?_⟩;refine⟨_,rfl,b,sd,rfl,aS s7.tk hs,fun l1 H8 s8 k8=>?_⟩;refine⟨_,rfl,_,rfl,_,_,rfl,rfl,a,_,_,_,rfl,rfl,SqL.of (s8 _ _ (s7 _ _ hx)),a1,?_⟩;refine⟨b',td,rfl,aS (s7.trans s8).tk hs',fun l2 H9 s9 k9=>?_⟩;refine⟨_,_,kq (s9.tup k8),kq k9,rfl,rfl,Nat.le_of_ble_eq_true rfl,?_⟩;rw[qv];have h9:=s9 _ _ (s8 _ _ h7);have s69:=s7.trans (s8.trans s9);have pr9:=Paired.imp (fun _ _ z=>PtE.tk (s8.trans s9).tk z) pr7;have ec:LO.cor ((W.getLast?.map (fun s=>s.d)).getD .e) (W.take (i+1))=LO.cor ((W.getLast?.map (fun s=>s.d)).getD .e) (W.take i)++(if sd.d≠td.d then[sd.st]else[]):=by
   rw[uM,hsd,uS,kC,rk hl]
  rw[ec];refine⟨_,rfl,?_⟩;refine br (fun z=>?_) (fun z=>?_)
  ·have ne:sd.d≠td.d:=fun y=>by
    replace z:(!decide (sd.d=td.d))=true:=z;rw[y]at z;simp at z
   rw[um ne];obtain⟨p,r,e1,e2,_⟩:=aS s69.tk hs;have lacc:acc.length<sizeLine:=by rw[uL pr];have:=jx ((W.getLast?.map (fun s=>s.d)).getD .e) (W.take i);rw[uG]at this;exact bf (by omega)
   have tk2:=TK.lst (o:=.lst (acc++[.ref p])) h9;refine⟨_,rfl,b,_,_,_,rfl,rfl,e1,ak (j:=0) rfl,h9,lacc,fun b5 o5 e5=>?_,af,?_⟩
   ·rw[ax (fun z=>by rw[z,hD]at e5;cases e5)];exact s69 _ _ e5
   ·exact Paired.app (Paired.imp (fun _ _ z=>z.tk tk2) pr9) (.cons ⟨p,rfl,tk2.sq e2⟩ .nil)
  ·have e:sd.d=td.d:=by
    replace z:¬(!decide (sd.d=td.d))=true:=z;simpa using z
   rw[uo (fun y=>y e),vn];exact⟨s69,h9,pr9⟩
 rintro acc H6 ⟨s6,h6,pr⟩;rw[uL pw,vl]at pr;exact q D acc H6 hD s6 h6 pr
def eS(K:Frag):Sp:=fun vs H Q _=>∃(c:Int)(w h:Nat),vs=[.int c,.int w,.int h]/\(0<w/\w<=8/\0<h/\h<=8)/\∀(v:Nat) H',v<2^(w*h)->ao H H'->Q (.int v) H'
variable(cR:Df P w K mg base 2 "_law_ground" ["_law_cell","_law_wide","_law_high"] (eS K))
theorem aQ:aE ["_law_cell","_law_wide","_law_high","_law_many","_law_rest","_law_way","_law_found"] ["_law_cell","_law_wide","_law_high"] (au (top 19)):=by trivial
include B cB du in
theorem iq(T:Tx K mg "_law_ground" (top 19) ["_law_cell","_law_wide","_law_high"]):Df P w K mg base 2 "_law_ground" ["_law_cell","_law_wide","_law_high"] (eS K):=by
 refine T.df aQ (by rintro _ _ _ _ ⟨c,w,h,rfl,⟨hw,hw8,hh,hh8⟩,q⟩;rfl) ?_;rintro f _ A _ s H _ Q E hr ⟨c,w,h,rfl,⟨hw,hw8,hh,hh8⟩,q⟩;refine aZ ?_;intro kX;refine ah 9 (ai (aD (aj bp (pv 6) (aj e8 ab (pv 3))))) ?_;intro kR9 pR9;refine ah 8 (bM (bh (aU cq (pv 5) ab (aF _)) (ai (aq (i:=6) aQ.nd rfl (by trivial) (av aV (d8 (aa ab (aa (aj e8 ab (aj bp (pv 4) (pv 3))) (aa (aj aT (aj e8 ab (pv 3)) ab) ae)))) (aj bp (aj bT (pv 4) (pv 3)) ab) (fun _ _=>rfl)))) aL) pR9) ?_;intro kR8 pR8;refine ah 7 (bM (bh (aU cq (pv 5) ab (aF _)) (ai (aq (i:=6) aQ.nd rfl (by trivial) (aJ du hr (aa (pv 4) (aa (pv 1) (aa (pv 2) ae)))))) aL) pR8) ?_;intro kR7 pR7;refine ah 6 (bM (bh (aU cq (pv 5) ab (aF _)) (ai (aq (i:=6) aQ.nd rfl (by trivial) (aj aT (aj aT (aj e8 ab (pv 3)) ab) (aj e8 ab (aj bp (pv 4) (pv 3)))))) aL) pR7) ?_;intro kR6 pR6;refine ah 5 (bM (bh (aU cq (pv 5) ab (aF _)) (ai (aq (i:=6) aQ.nd rfl (by trivial) (aj og (pv 6) (aJ cB hr (aa (aj aO (aj bT (pv 4) ab) ab) ae))))) aL) pR6) ?_;intro kR5 pR5;refine ah 4 (bM (bh (aU cq (pv 5) ab (aF _)) (ai (aq (i:=6) aQ.nd rfl (by trivial) (aj sR (pv 6) (aJ cB hr (aa (aj aO (aj bT (pv 4) ab) ab) ae))))) aL) pR5) ?_;intro kR4 pR4;refine ah 3 (ag (aq (i:=6) aQ.nd rfl (by trivial) (aJ cB hr (aa (pv 4) ae))) pR4) ?_;intro kR3 pR3;refine ah 2 (ag (aq (i:=5) aQ.nd rfl (by trivial) (aj bp (pv 0) ab)) pR3) ?_;intro kR2 pR2;refine ah 1 (ag (aq (i:=4) aQ.nd rfl (by trivial) (aj bT (pv 0) ab)) pR2) ?_;intro kR1 pR1;refine⟨_,(ag (aq (i:=3) aQ.nd rfl (by trivial) (aj cf (pv 1) (pv 2))) pR1),?_⟩;have hwh:w*h<=64:=Nat.mul_le_mul hw8 hh8;have hwp:0<w*h:=Nat.mul_pos hw hh;have e1:((w:Int)*(h:Int))=((w*h:Nat):Int):=by simp
 have fin:∀(v:Int) H',ao H H'->Q (.int (v % (1*2^(((w*h:Nat):Int)).toNat))) H':=fun v H' s=>by obtain⟨z,ez,hz⟩:=p9 v (w*h);rw[ez];exact q z H' hz s
 refine⟨_,rfl,_,rfl,_,_,rfl,rfl,.inl ⟨by omega,by omega⟩,_,rfl,_,_,rfl,rfl,⟨by decide,by decide⟩,_,rfl,_,_,rfl,rfl,(by show(0:Int)<_;decide),?_⟩;simp only[e1];refine⟨_,rfl,_,rfl,fun v=>?_⟩;have s0:=ao.refl H;refine⟨fun σ' H'=>∃v:Int,σ'=[some (.int c),some (.int w),some (.int h),some (.int ((w*h:Nat):Int)),some (.int (c / 8)),some (.int (c % 8)),some (.int v)]/\ao H H',?_,?_⟩
 ·refine iN ?_;intro kD1;refine⟨_,rfl,rfl,_,rfl,?_⟩;refine br (fun h1=>?_) (fun h1=>?_)
  ·refine⟨_,rfl,_,rfl,_,_,rfl,rfl,⟨by decide,by decide⟩,_,_,rfl,rfl,_,rfl,fun v2=>⟨_,_,rfl,rfl,?_⟩⟩;exact⟨_,rfl,s0⟩
  ·exact⟨_,rfl,s0⟩
 rintro σ' H1 ⟨v,rfl,s1⟩;refine⟨fun σ' H'=>∃v:Int,σ'=[some (.int c),some (.int w),some (.int h),some (.int ((w*h:Nat):Int)),some (.int (c / 8)),some (.int (c % 8)),some (.int v)]/\ao H H',?_,?_⟩
 ·refine iN ?_;intro kD2;refine⟨_,rfl,rfl,_,rfl,?_⟩;refine br (fun h1=>?_) (fun h1=>?_)
  ·refine⟨_,rfl,_,rfl,_,_,rfl,rfl,⟨by decide,by decide⟩,_,_,rfl,rfl,_,rfl,fun v2=>⟨_,_,rfl,rfl,?_⟩⟩;exact⟨_,rfl,s1⟩
  ·exact⟨_,rfl,s1⟩
 rintro σ' H2 ⟨v,rfl,s2⟩;refine⟨fun σ' H'=>∃v:Int,σ'=[some (.int c),some (.int w),some (.int h),some (.int ((w*h:Nat):Int)),some (.int (c / 8)),some (.int (c % 8)),some (.int v)]/\ao H H',?_,?_⟩
 ·refine iN ?_;intro kD3;refine⟨_,rfl,rfl,_,rfl,?_⟩;refine br (fun h1=>?_) (fun h1=>?_)
  ·refine⟨_,rfl,_,_,rfl,rfl,⟨by omega,by omega,by decide⟩,_,_,rfl,rfl,_,rfl,_,rfl,_,_,rfl,rfl,(by omega),_,_,rfl,rfl,⟨Int.emod_nonneg _ (by omega),by have:=Int.emod_lt_of_pos (c / 8) (show(0:Int)<((w*h:Nat):Int) by omega);omega,by decide⟩,_,_,rfl,rfl,?_⟩;exact⟨_,rfl,s2⟩
  ·exact⟨_,rfl,s2⟩
 rintro σ' H3 ⟨v,rfl,s3⟩;refine⟨fun σ' H'=>∃v:Int,σ'=[some (.int c),some (.int w),some (.int h),some (.int ((w*h:Nat):Int)),some (.int (c / 8)),some (.int (c % 8)),some (.int v)]/\ao H H',?_,?_⟩
 ·refine iN ?_;intro kD4;refine⟨_,rfl,rfl,_,rfl,?_⟩;refine br (fun h1=>?_) (fun h1=>?_)
  ·refine⟨_,rfl,_,rfl,_,rfl,_,w,h,rfl,⟨hw,hw8,hh,hh8⟩,fun v4 H' s'=>?_⟩;exact⟨_,rfl,s3.trans s'⟩
  ·exact⟨_,rfl,s3⟩
 rintro σ' H4 ⟨v,rfl,s4⟩;refine⟨fun σ' H'=>∃v:Int,σ'=[some (.int c),some (.int w),some (.int h),some (.int ((w*h:Nat):Int)),some (.int (c / 8)),some (.int (c % 8)),some (.int v)]/\ao H H',?_,?_⟩
 ·refine iN ?_;intro kD5;refine⟨_,rfl,rfl,_,rfl,?_⟩;refine br (fun h1=>?_) (fun h1=>?_)
  ·refine⟨_,rfl,_,rfl,_,_,rfl,rfl,(by omega),_,_,rfl,rfl,⟨Int.emod_nonneg _ (by omega),by have:=Int.emod_lt_of_pos (c / 8) (show(0:Int)<((w*h:Nat):Int) by omega);omega,by decide⟩,_,rfl,_,_,rfl,rfl,⟨by omega,by omega,by decide⟩,_,_,rfl,rfl,aB rfl,fun l hl=>?_⟩;have y3:∃v5:Int,atI [V.int 0,.int (1*2^(c / 8 % ((w*h:Nat):Int)).toNat),.int (1*2^(((w*h:Nat):Int)).toNat-1)] (c / 8 / ((w*h:Nat):Int) % 3)=some (.int v5):=by
    have y4:c / 8 / ((w*h:Nat):Int) % 3=0\/c / 8 / ((w*h:Nat):Int) % 3=1\/c / 8 / ((w*h:Nat):Int) % 3=2:=(by omega);rcases y4 with y|y|y<;>rw[y]<;>exact⟨_,rfl⟩
   obtain⟨v5,y3⟩:=y3;refine⟨_,rfl,_,rfl,_,_,rfl,rfl,⟨by omega,by omega⟩,_,_,rfl,rfl,(by show(0:Int)<_;decide),l,_,_,_,rfl,rfl,SqL.of af,y3,?_⟩;exact⟨_,rfl,s4.trans (ao.upd hl)⟩
  ·exact⟨_,rfl,s4⟩
 rintro σ' H5 ⟨v,rfl,s5⟩;exact⟨_,rfl,_,rfl,_,_,rfl,rfl,⟨by omega,by omega,by decide⟩,_,_,rfl,rfl,jY _,fin _ _ s5⟩
def gc(K:Frag):Sp:=fun vs H Q _=>∃(w h g:Nat)(x y:Int),vs=[.int (w:Nat),.int (h:Nat),.int (g:Nat),.int x,.int y]/\(0<w/\w<=8)/\(0<h/\h<=8)/\Q (.bl (LO.grd w h g x y)) H
variable(bX:Df P w K mg base 2 "_law_land" ["_law_wide","_law_high","_law_ground_here","_law_x","_law_y"] (gc K))
theorem jQ:aE ["_law_wide","_law_high","_law_ground_here","_law_x","_law_y"] ["_law_wide","_law_high","_law_ground_here","_law_x","_law_y"] (au (top 21)):=by trivial
include B bB in
theorem j3(T:Tx K mg "_law_land" (top 21) ["_law_wide","_law_high","_law_ground_here","_law_x","_law_y"]):Df P w K mg base 2 "_law_land" ["_law_wide","_law_high","_law_ground_here","_law_x","_law_y"] (gc K):=by
 refine T.df jQ (by rintro _ _ _ _ ⟨w,h,g,x,y,rfl,⟨hw,hw8⟩,⟨hh,hh8⟩,q⟩;rfl) ?_;rintro f _ A _ s H _ Q E hr ⟨w,h,g,x,y,rfl,⟨hw,hw8⟩,⟨hh,hh8⟩,q⟩;refine⟨_,(ai (aD (e7 (fK iI gQ ab (pv 3) (pv 0)) (e7 (fK iI gQ ab (pv 4) (pv 1)) (eZ (aJ bB hr (aa (pv 2) (aa (aj aO (aj cf (pv 4) (pv 0)) (pv 3)) ae)))))))),?_⟩;have no:∀b:Bool,LO.grd w h g x y=b->Q (.bl b) H:=fun b e=>e▸q;refine⟨_,rfl,_,_,rfl,rfl,_,rfl,?_⟩;refine br (fun z1=>?_) (fun z1=>?_)
 ·refine⟨_,rfl,_,_,rfl,rfl,_,rfl,?_⟩;refine br (fun z2=>?_) (fun z2=>?_)
  ·refine⟨_,rfl,_,_,rfl,rfl,_,rfl,?_⟩;refine br (fun z3=>?_) (fun z3=>?_)
   ·refine⟨_,rfl,_,_,rfl,rfl,_,rfl,?_⟩;refine br (fun z4=>?_) (fun z4=>?_)
    ·have y1:=uW z1;have y2:=uW z2;have y3:=uW z3;have y4:=uW z4;have hwh:w*h<=64:=Nat.mul_le_mul hw8 hh8;have ek:y*((w:Nat):Int)+x=((y.toNat*w+x.toNat:Nat):Int):=by
      rw[we,Int.natCast_mul,Int.toNat_of_nonneg y3,Int.toNat_of_nonneg y1]
     have hk:y.toNat*w+x.toNat<h*w:=by have a:y.toNat+1<=h:=(by omega);have b:=Nat.mul_le_mul_right w a;rw[Nat.add_mul,Nat.one_mul]at b;omega
     have hk2:y.toNat*w+x.toNat<=64:=(by rw[Nat.mul_comm]at hwh;omega);refine⟨_,rfl,_,rfl,_,rfl,_,_,rfl,rfl,.inl ⟨by omega,by omega⟩,_,rfl,_,_,rfl,rfl,g,y.toNat*w+x.toNat,(by show[_,V.int (y*((w:Nat):Int)+x)]=_;rw[ek]),hk2,?_⟩;refine no _ ?_;unfold LO.grd;rw[z1,z2,z3,z4];rfl
    ·exact no _ (by unfold LO.grd;rw[Bool.not_eq_true]at z4;rw[z4];simp)
   ·refine⟨_,rfl,dP ?_⟩;exact no _ (by unfold LO.grd;rw[Bool.not_eq_true]at z3;rw[z3];simp)
  ·exact no _ (by unfold LO.grd;rw[Bool.not_eq_true]at z2;rw[z2];simp)
 ·refine⟨_,rfl,dP ?_⟩;exact no _ (by unfold LO.grd;rw[Bool.not_eq_true]at z1;rw[z1];simp)
def fA(K:Frag):Sp:=fun vs H Q _=>∃(a:Addr)(p:LO.Pt)(w h:Nat),vs=[.ref a,.int (w:Nat),.int (h:Nat)]/\SqT K H a [.int p.1,.int p.2]/\(0<=p.1/\p.1<=w)/\(0<=p.2/\p.2<=h)/\Q (.bl true) H
variable(bx:Df P w K mg base 2 "_law_point" ["_law_thing","_law_wide","_law_high"] (fA K))
theorem i6:aE ["_law_thing","_law_wide","_law_high"] ["_law_thing","_law_wide","_law_high"] (au (top 23)):=by trivial
include B bu in
theorem jj(T:Tx K mg "_law_point" (top 23) ["_law_thing","_law_wide","_law_high"]):Df P w K mg base 2 "_law_point" ["_law_thing","_law_wide","_law_high"] (fA K):=by refine T.df i6 (by rintro _ _ _ _ ⟨a,p,w,h,rfl,ha,hx,hy,q⟩;rfl) ?_;rintro f _ A _ s H _ Q E hr ⟨a,p,w,h,rfl,ha,hx,hy,q⟩;refine aZ ?_;intro kX;refine ah 1 (ai (aD (e7 (fK iI iI ab (av ay (pv 0) ab (fun _ _=>rfl)) (pv 1)) (eZ (fK iI iI ab (av ay (pv 0) ab (fun _ _=>rfl)) (pv 2)))))) ?_;intro kR1 pR1;refine⟨_,(ag (bh ((d0 (bD (bj (aM kE (by rfl) B.isinstance boot_isinstance (aa (pv 0) (aa (dH (x:="tuple") (v:=.ty "tuple") (by rfl) B.tuple boot_tuple rfl) ae))))) (d0 (aU mh (aM a7 (by rfl) B.len PySem.boot_len (aa (pv 0) ae)) ab (aF _)) (d0 (bD (bj (aJ bu hr (aa (av ay (pv 0) ab (fun _ _=>rfl)) ae)))) (dZ (bD (bj (aJ bu hr (aa (av ay (pv 0) ab (fun _ _=>rfl)) ae)))))))).pt) (ai (aD cI)) aL) pR1),?_⟩;refine⟨_,rfl,_,_,a,_,_,_,rfl,rfl,ha,rfl,(fun u z=>z),oE K,_,rfl,dP ?_⟩;refine⟨_,rfl,a,_,rfl,.inr ha,rfl,_,rfl,dP ?_⟩;refine⟨_,rfl,a,_,_,_,rfl,rfl,ha,ak (j:=0) rfl,_,"int",rfl,c0.int _,_,rfl,dP ?_⟩;refine⟨_,rfl,a,_,_,_,rfl,rfl,ha,ak (j:=1) rfl,_,"int",rfl,c0.int _,_,rfl,dP ?_⟩;refine⟨_,rfl,a,_,_,_,rfl,rfl,ha,ak (j:=0) rfl,_,_,rfl,rfl,_,rfl,?_⟩;rw[uD hx.1];refine qp ⟨_,rfl,_,_,rfl,rfl,_,rfl,?_⟩;rw[uD hx.2];refine qp ⟨_,rfl,a,_,_,_,rfl,rfl,ha,ak (j:=1) rfl,_,_,rfl,rfl,_,rfl,?_⟩;rw[uD hy.1];refine qp ⟨_,rfl,_,_,rfl,rfl,?_⟩;show Q (.bl (decide (p.2<=h))) _;rw[uD hy.2];exact q
def fu(K:Frag):Sp:=fun vs H Q _=>∃(a b:Addr)(R S:List LO.Pt),vs=[.ref a,.ref b]/\dQ K H a R/\dQ K H b S/\R.length<=256/\LO.TurnOk S R/\∀H',ao H H'->Q (.bl true) H'
variable(dj:Df P w K mg base 2 "_law_turns" ["_law_ring","_law_starts"] (fu K))
theorem b9:aE ["_law_ring","_law_starts","_law_k","_law_back","_law_ahead","_law_turn"] ["_law_ring","_law_starts"] (au (top 28)):=by trivial
include B a9 in
theorem je(T:Tx K mg "_law_turns" (top 28) ["_law_ring","_law_starts"]):Df P w K mg base 2 "_law_turns" ["_law_ring","_law_starts"] (fu K):=by
 refine T.df b9 (by rintro _ _ _ _ ⟨a,b,R,S,rfl,hP,hB,l256,ok,q⟩;rfl) ?_;rintro f _ A _ s H _ Q E hr ⟨a,b,R,S,rfl,hP,hB,l256,ok,q⟩;have hu:=hr.units;refine aZ ?_;intro kX;refine ah 1 (ai (aD cI)) ?_;intro kR1 pR1;refine aC 0 3 (ai (bh ((d0 (aU cq (pv 5) ab (aF _)) (dZ ((rh (aU gQ (pv 5) ab (aF _)) (pM (aU n8 (gj vv PySem.F.slot_list_count PySem.F.type_list_count (oq hu) (pv 1) (aa (av aV (pv 0) (aj aT (pv 2) ab) (fun _ _=>rfl)) ae)) ab (aF _)))).pt))).pt) (ai (aD cI)) aL)) ?_;intro kS0x3 pS0x3;refine aC 0 2 (ag (aq (i:=5) b9.nd rfl (by trivial) (aj aT (aj cf (av ay (pv 3) ab (fun _ _=>rfl)) (av ay (pv 4) ab (fun _ _=>rfl))) (aj cf (av ay (pv 3) ab (fun _ _=>rfl)) (av ay (pv 4) ab (fun _ _=>rfl))))) pS0x3) ?_;intro kS0x2 pS0x2;refine aC 0 1 (ag (aq (i:=4) b9.nd rfl (by trivial) (aJ a9 hr (aa (av aV (pv 0) (aj aT (pv 2) ab) (fun _ _=>rfl)) (aa (av aV (pv 0) (pv 2) (fun _ _=>rfl)) ae)))) pS0x2) ?_;intro kS0x1 pS0x1;refine aC 0 0 (ag (aq (i:=3) b9.nd rfl (by trivial) (aJ a9 hr (aa (av aV (pv 0) (aj aT (pv 2) ab) (fun _ _=>rfl)) (aa (av aV (pv 0) (aj aT (pv 2) ab) (fun _ _=>rfl)) ae)))) pS0x1) ?_;intro kS0x0 pS0x0;refine⟨_,(ag (cc vk rfl (bN (by rfl) B.range (aa (aM a7 (by rfl) B.len PySem.boot_len (aa (pv 0) ae)) ae)) (aR (i:=2) b9.nd rfl (by trivial)) pS0x0) pR1),?_⟩;obtain⟨xs,hx0,px⟩:=hP;have lx:xs.length=R.length:=uL px;refine⟨_,rfl,a,xs,rfl,.inl (SqL.of hx0),_,rfl,by omega,by omega,?_⟩;rw[vb];refine cU (lo:=0) (n:=xs.length) (fun i σ H2=>∃(o2 o3 o4 o5:Option V),σ=[some (.ref a),some (.ref b),o2,o3,o4,o5]/\ao H H2) ⟨none,none,none,none,rfl,ao.refl _⟩ ?_ ?_
 ·rintro i σ H2 hi ⟨o2,o3,o4,o5,rfl,s2⟩;rw[show(0:Int)+(i:Int)=((i:Nat):Int) by omega];refine dD ?_;intro kD1;obtain⟨p0,p1,p2,e0,e1,e2,t1,t2,g1,g2⟩:=ok i (by omega);obtain⟨v0,a2,b0,rfl,hb0⟩:=cW px e0;obtain⟨v1,a1,b1,rfl,hb1⟩:=cW px e1;obtain⟨v2,a0,b2,rfl,hb2⟩:=cW px (ak e2);have hx:=s2 _ _ hx0;refine⟨_,rfl,_,rfl,_,_,rfl,rfl,a,_,_,_,rfl,rfl,SqL.of hx,a2,_,rfl,_,rfl,_,_,rfl,rfl,a,_,_,_,rfl,rfl,SqL.of hx,a1,b0,b1,p0,p1,rfl,s2.tup hb0,s2.tup hb1,fun l H3 s3 hl=>?_⟩;replace s3:=s2.trans s3;clear hx;have hx:=s3 _ _ hx0;refine⟨_,rfl,_,rfl,_,_,rfl,rfl,a,_,_,_,rfl,rfl,SqL.of hx,a1,_,rfl,_,rfl,a,_,_,_,rfl,rfl,SqL.of hx,a0,b1,b2,p1,p2,rfl,s3.tup hb1,s3.tup hb2,fun m H4 s4 hm=>?_⟩;replace hl:=s4.tup hl;replace s4:=s3.trans s4;clear hx;have hx:=s4 _ _ hx0;have g3:=LO.iY p1.1 p2.1;have g4:=LO.iY p1.2 p2.2;refine⟨_,rfl,l,_,_,_,rfl,rfl,hl,ak (j:=0) rfl,_,rfl,m,_,_,_,rfl,rfl,hm,ak (j:=1) rfl,_,_,rfl,rfl,.inl ⟨by omega,by omega⟩,_,rfl,l,_,_,_,rfl,rfl,hl,ak (j:=1) rfl,_,rfl,m,_,_,_,rfl,rfl,hm,ak (j:=0) rfl,_,_,rfl,rfl,.inl ⟨by omega,by omega⟩,_,_,rfl,rfl,?_⟩;obtain⟨ys,hy0,py0⟩:=hB;have hy:=s4 _ _ hy0;have py:Paired (PtE K H4) ys S:=Paired.imp (fun _ _ z=>PtE.tk s4.tk z) py0;refine⟨_,rfl,rfl,_,rfl,?_⟩;refine br (fun z=>absurd (veq.mp z) t1) (fun _=>?_);refine⟨_,rfl,_,_,rfl,rfl,_,rfl,?_⟩;refine br (fun z=>?_) (fun _=>?_)
  ·refine⟨_,rfl,.inl ⟨rfl,_,SqL.of hy⟩,_,rfl,_,rfl,_,_,rfl,rfl,a,_,_,_,rfl,rfl,SqL.of hx,a1,b,_,_,_,_,rfl,rfl,hy,jU py,kq (s4.tup hb1),rfl,d7 S,Nat.le_of_ble_eq_true rfl,_,_,rfl,rfl,_,rfl,?_⟩;have c1:=t2 (uW z);refine br (fun y=>absurd (uW y) ?_) (fun _=>⟨_,_,_,_,rfl,s4⟩);have e:(S.map fun p=>cH [.inl p.1,.inl p.2]).countP (fun e=>PyData.eqv e (cH [.inl p1.1,.inl p1.2]))=S.countP fun q=>decide (q=p1):=by
    rw[List.countP_map];exact List.countP_congr fun q _=>by rw[Function.comp,nX q p1]
   show ¬(1:Int)<(((S.map fun p=>cH [.inl p.1,.inl p.2]).countP (fun e=>PyData.eqv e (cH [.inl p1.1,.inl p1.2])):Nat):Int);rw[e];omega
  ·exact⟨_,_,_,_,rfl,s4⟩
 ·rintro σ H2 ⟨o2,o3,o4,o5,rfl,s2⟩;exact q _ s2
def fv(K:Frag):Sp:=fun vs H Q _=>∃(a:Addr)(R:List LO.Pt)(G:LO.Gr)(W:List LO.Sd)(rs:List LO.Run),vs=[.ref a]/\dQ K H a R/\LO.Rr G W rs/\R=rs.map (·.c)/\W.length<=256/\∀l vs H',H l=none->ao H H'->H' l=some (.lst vs)->Paired (aN K H') vs ((LO.rot rs).flatMap LO.Run.sds)->Q (.ref l) H'
variable(dq:Df P w K mg base 2 "_law_steps" ["_law_ring"] (fv K))
theorem bL:aE ["_law_ring","_law_found","_law_k","_law_here","_law_ahead"] ["_law_ring"] (au (top 29)):=by trivial
include B a9 in
theorem jf(T:Tx K mg "_law_steps" (top 29) ["_law_ring"]):Df P w K mg base 2 "_law_steps" ["_law_ring"] (fv K):=by
 refine T.df bL (by rintro _ _ _ _ ⟨a,R,G,W,rs,rfl,hP,rr,eR,l256,qq⟩;rfl) ?_;rintro f _ A _ s H _ Q E hr ⟨a,R,G,W,rs,rfl,hP,rr,eR,l256,qq⟩;have hu:=hr.units;refine aZ ?_;intro kX;refine ah 2 (ai (aD (pv 1))) ?_;intro kR2 pR2;refine aC 1 2 (ai (jX vk (aU (gP hu) (pv 3) (av aV (pv 0) (pv 2) (fun _ _=>rfl)) (aF _)) (ag (dG (gj vv vF vE b7 (pv 1) (aa (aH (aa (pv 3) (aa (aH (aa (aj aO (av ay (pv 3) ab (fun _ _=>rfl)) (av ay (pv 4) ab (fun _ _=>rfl))) (aa (aj aO (av ay (pv 3) ab (fun _ _=>rfl)) (av ay (pv 4) ab (fun _ _=>rfl))) ae))) ae))) ae))) (ai (aq (i:=3) bL.nd rfl (by trivial) (av ay (av aV (pv 1) (sP qR ab) (fun _ _=>rfl)) ab (fun _ _=>rfl))))))) ?_;intro kS1x2 pS1x2;refine aC 1 1 (ag (aq (i:=4) bL.nd rfl (by trivial) (aJ a9 hr (aa (pv 3) (aa (av aV (pv 0) (pv 2) (fun _ _=>rfl)) ae)))) pS1x2) ?_;intro kS1x1 pS1x1;refine aC 1 0 (ag (aq (i:=3) bL.nd rfl (by trivial) (av aV (pv 0) (aj aT (pv 2) ab) (fun _ _=>rfl))) pS1x1) ?_;intro kS1x0 pS1x0;refine ah 1 (ag (cc vk rfl (bN (by rfl) B.range (aa (aM a7 (by rfl) B.len PySem.boot_len (aa (pv 0) ae)) ae)) (aR (i:=2) bL.nd rfl (by trivial)) pS1x0) pR2) ?_;intro kR1 pR1;refine⟨_,(ag (aq (i:=1) bL.nd rfl (by trivial) (d8 ae)) pR1),?_⟩;obtain⟨xs,hx0,px⟩:=hP;have lx:xs.length=R.length:=uL px;have lR:R.length=rs.length:=by rw[eR,uj]
 have tot:((LO.rot rs).flatMap LO.Run.sds).length<=256:=by rw[((LO.gI rr.ne).flatMap_right _).length_eq,rr.flat];exact l256
 refine⟨aB rfl,fun l hl=>?_⟩;have u1:=ao.upd (o:=.lst []) hl;have k1:(upd H l (.lst [])) l=some (.lst []):=af;generalize (upd H l (.lst []))=H1 at u1 k1 ⊢;have l2:xs.length<=256:=by
  have:∀L:List LO.Run,(∀r∈L,0<r.n)->L.length<=(L.flatMap LO.Run.sds).length:=fun L hL=>by
   induction L with
   |nil=>exact vg _
   |cons r L ih=>rw[List.flatMap_cons,uV,LO.gw,wm];have:=ih fun x hx=>hL x (uv _ hx);have:=hL r (uy ..);omega
  have:=this rs rr.pos;rw[rr.flat]at this;omega
 refine⟨_,rfl,a,xs,rfl,.inl (SqL.of (u1 _ _ hx0)),_,rfl,by omega,by omega,?_⟩;rw[vb];refine cU (lo:=0) (n:=xs.length) (fun k σ H2=>∃(o2 o3 o4:Option V)(ys:List V),σ=[some (.ref a),some (.ref l),o2,o3,o4]/\ao H H2/\H2 l=some (.lst ys)/\Paired (aN K H2) ys (((LO.rot rs).take k).flatMap LO.Run.sds)) ⟨none,none,none,[],rfl,u1,k1,.nil⟩ ?_ ?_
 ·rintro k σ H2 hk ⟨o2,o3,o4,ys,rfl,s2,kl,pr⟩;rw[show(0:Int)+(k:Int)=((k:Nat):Int) by omega];refine dD ?_;intro kD1;have hk':k<rs.length:=by omega
  obtain⟨r,er⟩:∃r,rs[k]?=some r:=⟨_,uq hk'⟩;obtain⟨q,eq,nx⟩:=rr.prev er;have erot:(LO.rot rs)[k]?=some q:=by rw[LO.qZ hk'];exact eq
  have q0:=rr.pos q (uF eq);have e1:atI R ((k:Int)-1)=some q.c:=by have:=lS (xs:=R) (i:=k) (k:=1) (by omega) (by omega);rw[lR,eR,uU,eq]at this;rw[eR];exact this
  have e2:atI R ((k:Nat):Int)=some r.c:=ak (by rw[eR,uU,er];rfl);obtain⟨v1,a1,b1,rfl,hb1⟩:=cW px e1;obtain⟨v0,a0,b0,rfl,hb0⟩:=cW px e2;have hd:=nx.head q0;have fl:=LO.oN erot;refine⟨_,rfl,_,rfl,_,_,rfl,rfl,a,_,_,_,rfl,rfl,SqL.of (s2 _ _ hx0),a1,?_⟩;refine⟨_,rfl,_,rfl,_,rfl,a,_,_,_,rfl,rfl,SqL.of (s2 _ _ hx0),a0,b1,b0,q.c,r.c,rfl,s2.tup hb1,s2.tup hb0,fun m0 H3 s3 hm=>?_⟩;rw[hd.1,hd.2]at hm;have s03:=s2.trans s3;refine⟨fun m σ H3=>∃(j:Nat)(c:Addr)(ys:List V),m+j=q.n/\σ=[some (.ref a),some (.ref l),some (.int (k:Nat)),some (.ref c),some (.ref m0)]/\ao H H3/\SqT K H3 c [.int (q.c.1+j*q.d.dx),.int (q.c.2+j*q.d.dy)]/\SqT K H3 m0 [.int q.d.dx,.int q.d.dy]/\H3 l=some (.lst ys)/\Paired (aN K H3) ys (((LO.rot rs).take k).flatMap LO.Run.sds++q.sds.take j),⟨q.n,0,b1,ys,rfl,rfl,s03,sq2 (s03.tup hb1) (by simp) (by simp),hm,s3 _ _ kl,?_⟩,?_⟩
  ·rw[List.take_zero,vn];exact Paired.imp (fun _ _ z=>aN.tk s3.tk z) pr
  clear s03 hm s3 pr kl s2;rintro m σ H3 ⟨j,c,ys,hmj,rfl,s3,hc,hm,kl,pr⟩;have tr:=LO.pH q (j:=j) (by omega);refine⟨_,rfl,_,rfl,_,rfl,a,_,_,_,rfl,rfl,SqL.of (s3 _ _ hx0),a0,_,_,kq hc,kq (s3.tup hb0),rfl,rfl,Nat.le_of_ble_eq_true rfl,_,rfl,?_⟩;rw[nX ((q.c.1+j*q.d.dx,q.c.2+j*q.d.dy):LO.Pt) r.c,nx.c];refine br (fun z=>?_) (fun z=>?_)
  ·have jn:j<q.n:=by
    refine Nat.lt_of_le_of_ne (by omega) fun e=>?_;rw[uD (tr.mpr e)]at z;cases z
   refine⟨fun σ' H'=>∃m',m'<m/\(∃(j:Nat)(c:Addr)(ys:List V),m'+j=q.n/\σ'=[some (.ref a),some (.ref l),some (.int (k:Nat)),some (.ref c),some (.ref m0)]/\ao H H'/\SqT K H' c [.int (q.c.1+j*q.d.dx),.int (q.c.2+j*q.d.dy)]/\SqT K H' m0 [.int q.d.dx,.int q.d.dy]/\H' l=some (.lst ys)/\Paired (aN K H') ys (((LO.rot rs).take k).flatMap LO.Run.sds++q.sds.take j)),fun _ _ z=>z,?_⟩;refine⟨_,rfl,.inl ⟨rfl,_,SqL.of kl⟩,_,rfl,_,rfl,c,_,_,_,rfl,rfl,hc,ak (j:=0) rfl,_,rfl,m0,_,_,_,rfl,rfl,hm,ak (j:=0) rfl,_,_,rfl,rfl,_,rfl,c,_,_,_,rfl,rfl,hc,ak (j:=1) rfl,_,rfl,m0,_,_,_,rfl,rfl,hm,ak (j:=1) rfl,_,_,rfl,rfl,aB rfl,fun t2 ht2=>?_⟩;have u2:=ao.upd (o:=.tup [.int (q.c.1+j*q.d.dx+q.d.dx),.int (q.c.2+j*q.d.dy+q.d.dy)]) ht2;have z2:SqT K (upd H3 t2 (.tup [.int (q.c.1+j*q.d.dx+q.d.dx),.int (q.c.2+j*q.d.dy+q.d.dy)])) t2 [.int (q.c.1+j*q.d.dx+q.d.dx),.int (q.c.2+j*q.d.dy+q.d.dy)]:=SqT.of af;generalize (upd H3 t2 (.tup [.int (q.c.1+j*q.d.dx+q.d.dx),.int (q.c.2+j*q.d.dy+q.d.dy)]))=G2 at u2 z2 ⊢;refine⟨aB rfl,fun t3 ht3=>?_⟩;have u3:=ao.upd (o:=.tup [.ref c,.ref t2]) ht3;have z3:SqT K (upd G2 t3 (.tup [.ref c,.ref t2])) t3 [.ref c,.ref t2]:=SqT.of af;have s23:=u2.trans u3;generalize (upd G2 t3 (.tup [.ref c,.ref t2]))=G3 at u3 z3 s23 ⊢;have kl3:=s23 _ _ kl;have ly:ys.length<sizeLine:=by rw[uL pr,uV,uG,LO.gw];exact bf (by omega)
   refine⟨l,_,_,rfl,rfl,kl3,ly,?_⟩;have tk4:=TK.lst (o:=.lst (ys++[.ref t3])) kl3;have s4:ao H (upd G3 l (.lst (ys++[.ref t3]))):=fun b5 o5 e5=>by rw[ax (fun z=>by rw[z,hl]at e5;cases e5)];exact s23 _ _ (s3 _ _ e5)
   have kl4:(upd G3 l (.lst (ys++[.ref t3]))) l=some (.lst (ys++[.ref t3])):=af;have hS:LT.cC K (upd G3 l (.lst (ys++[.ref t3]))) t3 ⟨q.c.1+j*q.d.dx,q.c.2+j*q.d.dy,q.d⟩:=⟨c,t2,tk4.sq z3,tk4.sq (s23.tup hc),tk4.sq (u3.tup z2)⟩;have z2':=tk4.sq (u3.tup z2);have hm':=tk4.sq (s23.tup hm);have z3':=tk4.sq z3;have pr':=Paired.imp (fun _ _ z=>aN.tk tk4 (aN.tk s23.tk z)) pr;generalize (upd G3 l (.lst (ys++[.ref t3])))=G4 at tk4 s4 kl4 hS z2' hm' z3' pr' ⊢;refine⟨_,rfl,_,rfl,l,_,_,_,rfl,rfl,SqL.of kl4,kH _ _,t3,_,_,_,rfl,rfl,z3',ak (j:=1) rfl,?_⟩;refine⟨m-1,by omega,j+1,t2,_,by omega,rfl,s4,sq2 z2' ?_ ?_,hm',kl4,?_⟩
   ·rw[we,Int.add_mul,Int.add_assoc];congr 1;show _+q.d.dx=_+1*q.d.dx;rw[Int.one_mul]
   ·rw[we,Int.add_mul,Int.add_assoc];congr 1;show _+q.d.dy=_+1*q.d.dy;rw[Int.one_mul]
   ·rw[LO.qY,um jn,<-uJ];exact Paired.app pr' (.cons ⟨t3,rfl,hS⟩ .nil)
  ·have jn:j=q.n:=tr.mp (by simpa using z);refine⟨_,_,_,ys,rfl,s3,kl,?_⟩;rw[uM,erot,uS,List.flatMap_append,List.flatMap_singleton];rw[jn,<-LO.gw q,vl]at pr;exact pr
 ·rintro σ H2 ⟨o2,o3,o4,ys,rfl,s2,kl,pr⟩;refine⟨_,rfl,qq l ys H2 hl s2 kl ?_⟩;rw[List.take_of_length_le]at pr
  ·exact pr
  ·rw[(LO.gI rr.ne).length_eq];omega
def jN(K:Frag)(P:Program)(w:World):Sp:=fun vs H Q _=>∃(a:Addr)(wd hh g:Nat),vs=[.ref a,.int (g:Nat)]/\SqT K H a [.int (wd:Nat),.int (hh:Nat)]/\(0<wd/\wd<=8)/\(0<hh/\hh<=8)/\g<2^(wd*hh)/\∀l vs U H',ao H H'->H' l=some (.lst vs)->Paired (aN K H') vs U->U.Nodup->(∀t,t∈U<->LO.brd (LO.grd wd hh g) t=true)->U.Pairwise (fun s t=>LT.sdN s<=LT.sdN t)->U.length<=256->Q (.ref l) H'
variable(dM:Df P w K mg base 3 "sides" ["floor","cells"] (jN K P w))
theorem fF:aE ["floor","cells","known","cell","side"] ["floor","cells"] (au (top 7)):=by trivial
include B fO cE in
theorem oj(T:Tx K mg "sides" (top 7) ["floor","cells"]):Df P w K mg base 3 "sides" ["floor","cells"] (jN K P w):=by
 refine T.df fF (by rintro _ _ _ _ ⟨a,wd,hh,g,rfl,hT,⟨hw,hw8⟩,⟨hh0,hh8⟩,hg,q⟩;rfl) ?_;rintro f _ A _ s H _ Q E hr ⟨a,wd,hh,g,rfl,hT,⟨hw,hw8⟩,⟨hh0,hh8⟩,hg,q⟩;have hu:=hr.units;refine aZ ?_;intro kX;refine ah 2 (ai (aD (aM (LT.fg hu) (by rfl) B.sorted (by trivial) (aa (dC ["side"] [("known",2)] (gr _ ["known"]) rfl (by rfl) rfl (by trivial) (by trivial) (bI (by rfl)) (ff (by rfl)) (mC ⟨rfl,rfl⟩ mN) (mC rfl mN) (eg (by decide)) (rl (pv 2)) (fun _ _ _ _=>aR (i:=0) (show(["side","known"]:List Str).Nodup by trivial) rfl (Or.inl rfl) (Or.inr rfl)) (fun _ _ _ _=>fG (i9 (kW (P:=P) (w:=w) (K:=K) rfl rfl rfl hu (aH (aa (av (gy (K:=K) rfl) (pv 0) ab (fun _ _=>rfl)) (aa (av (gy (K:=K) rfl) (pv 0) ab (fun _ _=>rfl)) ae))) (pv 1)))) (fun _ _ _ _=>(pv 0))) ae)))) ?_;intro kR2 pR2;refine ah 1 (ag (cc vk rfl (cN (aJ fO hr (aa (pv 1) ae))) (aR (i:=3) fF.nd rfl (by trivial)) (ai (cc vk rfl (cN (aJ cE hr (aa (pv 0) (aa (pv 3) ae)))) (aR (i:=4) fF.nd rfl (by trivial)) (ai (md hu (pv 2) (pv 4) cI rfl))))) pR2) ?_;intro kR1 pR1;refine⟨_,(ag (aq (i:=2) fF.nd rfl (by trivial) j0) pR1),?_⟩;intro d hd nm;have u1:=ao.upd (o:=cp d cY) hd;have c1:cu P w K (upd H d (cp d cY)) d cY []:=⟨af,hZ P w,nm,fun t ht=>nomatch ht⟩;generalize (upd H d (cp d cY))=H1 at u1 c1 ⊢;have g64:g<2^64:=uI hg (Nat.pow_le_pow_right (by decide) (vS (Nat.mul_le_mul hw8 hh8) (by decide)));have ll:(cn g).length<=64:=by have:=(List.filter_sublist (p:=g.testBit) (l:=List.range 64)).length_le;rwa[vG]at this
 refine⟨_,rfl,g,rfl,g64,fun lc hlc=>?_⟩;have u2:=ao.upd (o:=.lst ((cn g).map fun k:Nat=>V.int (k:Int))) hlc;have k2:(upd H1 lc (.lst ((cn g).map fun k:Nat=>V.int (k:Int)))) lc=some (.lst ((cn g).map fun k:Nat=>V.int (k:Int))):=af;have c2:=bY u2 c1;replace u2:=u1.trans u2;generalize (upd H1 lc (.lst ((cn g).map fun k:Nat=>V.int (k:Int))))=H2 at u2 k2 c2 ⊢;obtain⟨X,eX⟩:∃X:Nat->List LO.Sd,X=fun k=>LO.eN ((k % wd:Nat):Int) ((k / wd:Nat):Int):=⟨_,rfl⟩;refine⟨lc,rfl,⟨_,SqL.of k2⟩,cX (K:=K) (a:=lc) (xs:=(cn g).map fun k:Nat=>V.int (k:Int)) (fun i σ H3=>∃(o3 o4:Option V)(o:Obj)(T:CT),σ=[some (.ref a),some (.int (g:Nat)),some (.ref d),o3,o4]/\ao H H3/\H3 lc=some (.lst ((cn g).map fun k:Nat=>V.int (k:Int)))/\cu P w K H3 d o T/\Kn T (fun s=>∃k∈(cn g).take i,s∈X k)/\T.length<=4*i) ⟨none,none,_,_,rfl,u2,k2,c2,lG.congr fun s=>by simp,vg _⟩ (fun i σ H3 _ hPz=>hPz.elim fun _ hPz=>hPz.elim fun _ hPz=>hPz.elim fun _ hPz=>hPz.elim fun _ hPz=>(fun z=>SqL.of z) (hPz.2.2.1)) ?_ ?_⟩
 ·rintro i v σ H3 hi ⟨o3,o4,o,T,rfl,s3,k3,c3,kn,lT⟩;refine dD ?_;intro kD1;rw[uU]at hi;obtain⟨k,hk,rfl⟩:=vN.mp hi;have i64:i<64:=by
   have:=(ur.mp hk).1;omega
  refine⟨_,rfl,_,rfl,a,wd,hh,k,rfl,s3.tup hT,⟨hw,hw8⟩,fun lr vr H4 s4 hr pr=>?_⟩;have eR:LO.eN ((k % wd:Nat):Int) ((k / wd:Nat):Int)=X k:=by rw[eX]
  rw[eR]at pr;have l4:(X k).length=4:=by rw[eX];rfl
  refine⟨lr,rfl,⟨_,SqL.of hr⟩,cX (K:=K) (a:=lr) (xs:=vr) (fun j σ H5=>∃(o4:Option V)(o:Obj)(T:CT),σ=[some (.ref a),some (.int (g:Nat)),some (.ref d),some (.int (k:Nat)),o4]/\ao H H5/\H5 lc=some (.lst ((cn g).map fun k:Nat=>V.int (k:Int)))/\H5 lr=some (.lst vr)/\Paired (aN K H5) vr (X k)/\cu P w K H5 d o T/\Kn T (fun s=>(∃k∈(cn g).take i,s∈X k)\/s∈(X k).take j)/\T.length<=4*i+j) ⟨o4,o,T,rfl,s3.trans s4,s4 _ _ k3,hr,pr,bY s4 c3,kn.congr fun s=>by simp,lT⟩ (fun j σ H5 _ hPz=>hPz.elim fun _ hPz=>hPz.elim fun _ hPz=>hPz.elim fun _ hPz=>(fun z=>SqL.of z) (hPz.2.2.2.1)) ?_ ?_⟩
  ·rintro j v σ H5 hj ⟨o4',o5,T5,rfl,s5,k5,r5,pr5,c5,kn5,lT5⟩;refine dD ?_;intro kD2;obtain⟨sd,hsd,b,rfl,hb⟩:=bg pr5 hj;have j4:j<4:=by
    have:=(ur.mp hsd).1;omega
   refine⟨_,rfl,_,rfl,d,o5,T5,b,_,rfl,c5,rfl,bK hb,by omega,fun o' ho'=>?_⟩;have tk:=TK.obj (o:=cp d o') c5.1;refine⟨_,o',_,rfl,fun b5 o5 e5=>?_,?_,?_,Paired.imp (fun _ _ z=>aN.tk tk z) pr5,iR c5 (bK hb) ho',(lE kn5 sd b _).congr fun s=>?_,?_⟩
   ·rw[ax (fun z=>by rw[z,hd]at e5;cases e5)];exact s5 _ _ e5
   ·rw[ax (fun z=>by rw[z,c5.1]at k5;cases k5)];exact k5
   ·rw[ax (fun z=>by rw[z,c5.1]at r5;cases r5)];exact r5
   ·rw[uM,hsd,uS,uB,ux,or_assoc]
   ·have:=jT T5 (aK sd) b (.bl true);omega
  ·rintro σ H5 ⟨o4',o5,T5,rfl,s5,k5,r5,pr5,c5,kn5,lT5⟩;rw[uL pr5,l4]at lT5;rw[uL pr5,vl]at kn5;refine⟨_,_,o5,T5,rfl,s5,k5,c5,kn5.congr fun s=>?_,by omega⟩;rw[uM,hk,uS];simp only[uB,ux];exact⟨fun z=>z.elim (fun⟨k',a,b⟩=>⟨k',.inl a,b⟩) fun z=>⟨k,.inr rfl,z⟩,fun⟨k',a,b⟩=>a.elim (fun a=>.inl ⟨k',a,b⟩) fun a=>.inr (a▸b)⟩
 ·rintro σ H3 ⟨o3,o4,o,T,rfl,s3,k3,c3,kn,lT⟩;rw[uj,vl]at kn;rw[uj]at lT;have knG:Kn T (fun s=>LO.at4 (LO.grd wd hh g) s.x s.y s.d=true):=kn.congr fun s=>by
   rw[<-LO.fV hw,eX];refine⟨fun hPz=>?_,fun⟨k,hk,hb,hm⟩=>⟨k,(gX g64).mpr hb,hm⟩⟩;obtain⟨k,hk,hm⟩:=hPz;have hb:=(gX g64).mp hk;exact⟨k,Nat.lt_of_not_le (fun z=>by rw[Nat.testBit_lt_two_pow (uI hg (Nat.pow_le_pow_right (by decide) z))]at hb;exact Bool.noConfusion hb),hb,hm⟩
  clear kn;obtain⟨L,pl,nd,hL⟩:=knG.list;have lL:T.length=L.length:=uL pl;refine⟨_,rfl,d,o,T,rfl,c3.1,c3.2.1,c3.2.2.1,fun D hD=>?_⟩;refine tH (d:=d) (o:=o) (T:=T) (fun i acc H4=>ao H3 H4/\H4 D=some (.lst acc)/\Paired (aN K H4) acc ((L.take i).filter (LO.brd (LO.grd wd hh g)))) ⟨ao.upd hD,af,.nil⟩ (fun i acc H4 _ ⟨e,_⟩=>e _ _ c3.1) ?_ ?_
  ·rintro i t acc H4 hi ⟨s4,h4,pr⟩;refine iO ?_;intro kq3 kr3;obtain⟨sd,hsd,et⟩:=bg pl hi;have hs3:LT.cC K H3 t.2.1 sd:=by
    have:=c3.2.2.2 t (uF hi);rw[et]at this;exact qB this
   obtain⟨p,r,h1,h2,h3⟩:=aS s4.tk hs3;refine⟨_,rfl,t.2.1,_,_,_,rfl,rfl,h1,ak (j:=1) rfl,_,rfl,t.2.1,_,_,_,rfl,rfl,h1,ak (j:=0) rfl,aB rfl,fun b hb=>?_⟩;have u5:=ao.upd (o:=.tup [.ref r,.ref p]) hb;have r5:LT.cC K (upd H4 b (.tup [.ref r,.ref p])) b sd.rev:=⟨r,p,SqT.of af,sq2 (u5.tup h3) (LO.dY sd).1.symm (LO.dY sd).2.1.symm,sq2 (u5.tup h2) (LO.dY sd).2.2.1.symm (LO.dY sd).2.2.2.symm⟩;have s5:=s4.trans u5;have h5:=u5 _ _ h4;have pr5:=Paired.imp (fun _ _ z=>aN.tk u5.tk z) pr;generalize (upd H4 b (.tup [.ref r,.ref p]))=H5 at u5 r5 s5 h5 pr5 ⊢;refine⟨_,rfl,d,o,T,b,_,rfl,bY s5 c3,rfl,bK r5,_,rfl,?_⟩;have el:(L.take (i+1)).filter (LO.brd (LO.grd wd hh g))=(L.take i).filter (LO.brd (LO.grd wd hh g))++[sd].filter (LO.brd (LO.grd wd hh g)):=by rw[uM,hsd,uS,vK]
   have hat:LO.at4 (LO.grd wd hh g) sd.x sd.y sd.d=true:=(hL sd).mp (uF hsd);have eb:LO.brd (LO.grd wd hh g) sd= !(L2.atT T (aK sd.rev)).isSome:=by rw[LO.jB,hat,Bool.true_and];congr 1;exact vu.mpr (knG.at sd.rev).symm
   refine br (fun z=>?_) (fun z=>?_)
   ·replace z:(!(L2.atT T (aK sd.rev)).isSome)=true:=z;rw[<-eb]at z;have lacc:acc.length<sizeLine:=by
     rw[uL pr];have:=(List.filter_sublist (p:=LO.brd (LO.grd wd hh g)) (l:=L.take i)).length_le;rw[uG]at this;exact bf (by omega)
    have tk2:=TK.lst (o:=.lst (acc++[.ref t.2.1])) h5;refine⟨_,rfl,h5,lacc,fun b5 o5 e5=>?_,af,?_⟩
    ·rw[ax (fun z=>by rw[z,hD]at e5;cases e5)];exact s5 _ _ e5
    ·rw[el,List.filter_cons_of_pos z,wc];exact Paired.app (Paired.imp (fun _ _ z=>aN.tk tk2 z) pr5) (.cons ⟨_,rfl,aS tk2 (aS s5.tk hs3)⟩ .nil)
   ·replace z:¬(!(L2.atT T (aK sd.rev)).isSome)=true:=z;rw[<-eb]at z;refine⟨s5,h5,?_⟩;rw[el,List.filter_cons_of_neg z,wc,vn];exact pr5
  ·rintro acc H4 ⟨s4,h4,pr⟩;rw[lL,vl]at pr;obtain⟨zs,rfl,e2,hz⟩:=gu pr;have lz:zs.length<=256:=by
    have:=(List.filter_sublist (p:=LO.brd (LO.grd wd hh g)) (l:=L)).length_le;rw[<-e2,uj]at this;omega
   have iz:∀z∈zs,LO.brd (LO.grd wd hh g) z.2=true:=fun z hz=>by have:z.2∈zs.map (·.2):=vC hz;rw[e2]at this;exact(vT.mp this).2
   refine⟨D,zs,rfl,SqL.of h4,hz,fun z hz'=>LO.f7 hw8 hh8 (LO.ba.mp (iz z hz')).1,by omega,fun l ys hl pm so=>?_⟩;have u5:=ao.upd (o:=.lst (ys.map fun z=>V.ref z.1)) hl;have pm2:(ys.map (·.2)).Perm (L.filter (LO.brd (LO.grd wd hh g))):=e2▸pm.map _;refine q l _ (ys.map (·.2)) _ (s3.trans (s4.trans u5)) af (gs fun z hz'=>aS u5.tk (hz z (pm.mem_iff.mp hz'))) (pm2.nodup_iff.mpr (nd.filter _)) (fun t=>?_) ?_ ?_
   ·rw[pm2.mem_iff,vT,hL];exact⟨fun z=>z.2,fun z=>⟨(LO.ba.mp z).1,z⟩⟩
   ·rw[List.pairwise_map]at so ⊢;exact so
   ·rw[uj,pm.length_eq];exact lz
def eQ(K:Frag)(P:Program)(w:World):Sp:=fun vs H Q _=>∃(d b:Addr)(o:Obj)(T:CT)(s:LO.Sd)(G:LO.Gr),vs=[.ref d,.ref b]/\cu P w K H d o T/\(∀t,(L2.atT T (aK t)).isSome=LO.brd G t)/\LT.cC K H b s/\LO.brd G s=true/\(∀U:List LO.Sd,U.Nodup->(∀t∈U,LO.brd G t=true)->U.length<=256)/\∀l vs n H',H l=none->ao H H'->H' l=some (.lst vs)->Paired (aN K H') vs (LO.wlk G s n)->0<n->LO.itr G s n=s->(LO.wlk G s n).Nodup->Q (.ref l) H'
variable(cQ:Df P w K mg base 3 "round_from" ["known","first"] (eQ K P w))
theorem cD:aE ["known","first","found","side"] ["known","first"] (au (top 10)):=by trivial
include B bS in
theorem ip(T:Tx K mg "round_from" (top 10) ["known","first"]):Df P w K mg base 3 "round_from" ["known","first"] (eQ K P w):=by
 refine T.df cD (by rintro _ _ _ _ ⟨d,b,o,T,s,G,rfl,hA,hm,hs,hb,fin,q⟩;rfl) ?_;rintro f _ A _ s H _ Q E hr ⟨d,b,o,T,s,G,rfl,hA,hm,hs,hb,fin,q⟩;have hu:=hr.units;refine aZ ?_;intro kX;refine ah 3 (ai (aD (pv 2))) ?_;intro kR3 pR3;refine aC 2 1 (ai (aq (i:=3) cD.nd rfl (by trivial) (aJ bS hr (aa (pv 0) (aa (pv 3) ae))))) ?_;intro kS2x1 pS2x1;refine aC 2 0 (ag (dG (gj vv vF vE b7 (pv 2) (aa (pv 3) ae))) pS2x1) ?_;intro kS2x0 pS2x0;refine ah 2 (ag (jX vk (aU (gP hu) (pv 3) (pv 1) (aF _)) pS2x0) pR3) ?_;intro kR2 pR2;refine ah 1 (ag (aq (i:=3) cD.nd rfl (by trivial) (aJ bS hr (aa (pv 0) (aa (pv 1) ae)))) pR2) ?_;intro kR1 pR1;refine⟨_,(ag (aq (i:=2) cD.nd rfl (by trivial) (d8 (aa (pv 1) ae))) pR1),?_⟩;refine⟨_,rfl,aB rfl,fun l hl=>?_⟩;have u1:=ao.upd (o:=.lst [.ref b]) hl;have k1:(upd H l (.lst [.ref b])) l=some (.lst [.ref b]):=af;generalize (upd H l (.lst [.ref b]))=H1 at u1 k1 ⊢;have AT:∀{H'},ao H H'->cu P w K H' d o T:=fun z=>⟨z _ _ hA.1,hA.2.1,hA.2.2.1,fun t ht=>(hA.2.2.2 t ht).tk z.tk⟩;refine⟨_,rfl,_,rfl,d,b,o,T,s,G,rfl,AT u1,hm,aS u1.tk hs,hb,fun c H2 s2 hc=>?_⟩;have len:∀n,(LO.wlk G s n).Nodup->n<=256:=fun n nd=>by
  have:=fin _ nd fun t ht=>by obtain⟨j,_,rfl⟩:=uO.mp ht;exact LO.cg hb j
  rwa[LO.wlk,uj,vG]at this
 refine⟨fun m σ H3=>∃n c vs,m+n=300/\0<n/\σ=[some (.ref d),some (.ref b),some (.ref l),some (.ref c)]/\ao H H3/\LT.cC K H3 c (LO.itr G s n)/\H3 l=some (.lst vs)/\Paired (aN K H3) vs (LO.wlk G s n)/\(LO.wlk G s n).Nodup,⟨299,1,c,_,rfl,by decide,rfl,u1.trans s2,hc,s2 _ _ k1,.cons ⟨b,rfl,aS (u1.trans s2).tk hs⟩ .nil,vZ _ _⟩,?_⟩;rintro m σ H3 ⟨n,c3,vs,hm3,n0,rfl,s3,hc3,hl3,pr,nd⟩;have hs3:=aS s3.tk hs;refine⟨_,rfl,_,rfl,_,_,(bK hc3).isD,(bK hs3).isD,rfl,rfl,Nat.le_of_ble_eq_true rfl,_,rfl,?_⟩;rw[mG];have n256:=len n nd;refine br (fun z=>?_) (fun z=>?_)
 ·have ne:LO.itr G s n≠s:=fun y=>by
   replace z:(!decide (aK (LO.itr G s n)=aK s))=true:=z;rw[y]at z;simp at z
  have nd2:(LO.wlk G s (n+1)).Nodup:=by rw[LO.fo];refine v9.mpr ⟨nd,vZ _ _,fun x hx y hy z=>?_⟩;rw[ux.mp hy]at z;exact LO.pj hb nd ne (z▸hx)
  have n256':=len _ nd2;refine⟨fun σ' H'=>∃m',m'<m/\(∃n c vs,m'+n=300/\0<n/\σ'=[some (.ref d),some (.ref b),some (.ref l),some (.ref c)]/\ao H H'/\LT.cC K H' c (LO.itr G s n)/\H' l=some (.lst vs)/\Paired (aN K H') vs (LO.wlk G s n)/\(LO.wlk G s n).Nodup),fun _ _ z=>z,?_⟩;have lv:vs.length<sizeLine:=by rw[uL pr,LO.wlk,uj,vG];exact bf (by omega)
  refine⟨_,rfl,.inl ⟨rfl,_,SqL.of hl3⟩,_,rfl,l,_,_,rfl,rfl,hl3,lv,?_⟩;have tk4:=TK.lst (o:=.lst (vs++[.ref c3])) hl3;have s4:ao H (upd H3 l (.lst (vs++[.ref c3]))):=fun b5 o5 e5=>by rw[ax (fun z=>by rw[z,hl]at e5;cases e5)];exact s3 _ _ e5
  refine⟨_,rfl,_,rfl,d,c3,o,T,_,G,rfl,AT s4,hm,aS tk4 hc3,LO.cg hb n,fun c5 H5 s5 hc5=>?_⟩;refine⟨m-1,by omega,n+1,c5,_,by omega,by omega,rfl,s4.trans s5,hc5,s5 _ _ af,?_,nd2⟩;rw[LO.fo];exact Paired.app (Paired.imp (fun _ _ z=>(z.tk tk4).tk s5.tk) pr) (.cons ⟨c3,rfl,aS s5.tk (aS tk4 hc3)⟩ .nil)
 ·have e:LO.itr G s n=s:=by
   replace z:¬(!decide (aK (LO.itr G s n)=aK s))=true:=z;simp at z;exact eH z
  exact⟨_,rfl,q l vs n H3 hl s3 hl3 pr n0 e nd⟩
def fw(K:Frag):Sp:=fun vs H Q _=>∃(w h g:Nat),vs=[.int (w:Nat),.int (h:Nat),.int (g:Nat)]/\(0<w/\w<=8)/\(0<h/\h<=8)/\∀l vs U H',ao H H'->H' l=some (.lst vs)->Paired (aN K H') vs U->U.Nodup->(∀t,t∈U<->LO.brd (LO.grd w h g) t=true)->U.Pairwise (fun s t=>LT.sdN s<=LT.sdN t)->U.length<=256->Q (.ref l) H'
variable(dr:Df P w K mg base 3 "_law_sides" ["_law_wide","_law_high","_law_ground_here"] (fw K))
theorem cb:aE ["_law_wide","_law_high","_law_ground_here","_law_found","_law_k","_law_x","_law_y"] ["_law_wide","_law_high","_law_ground_here"] (au (top 22)):=by trivial
include B bB bX in
theorem jg(T:Tx K mg "_law_sides" (top 22) ["_law_wide","_law_high","_law_ground_here"]):Df P w K mg base 3 "_law_sides" ["_law_wide","_law_high","_law_ground_here"] (fw K):=by
 refine T.df cb (by rintro _ _ _ _ ⟨w,h,g,rfl,⟨hw,hw8⟩,⟨hh,hh8⟩,q⟩;rfl) ?_;rintro f _ A _ s H _ Q E hr ⟨w,h,g,rfl,⟨hw,hw8⟩,⟨hh,hh8⟩,q⟩;have hu:=hr.units;refine aZ ?_;intro kX;refine ah 2 (ai (aD (aM (LT.fg hu) (by rfl) B.sorted (by trivial) (aa (pv 3) ae)))) ?_;intro kR2 pR2;refine aC 1 2 (ai (bh (bj (aJ bB hr (aa (pv 2) (aa (pv 4) ae)))) (bM (bh (bD (bj (aJ bX hr (aa (pv 0) (aa (pv 1) (aa (pv 2) (aa (pv 5) (aa (aj aT (pv 6) ab) ae)))))))) (ai (dG (gj vv vF vE b7 (pv 3) (aa (aH (aa (aH (aa (pv 5) (aa (pv 6) ae))) (aa (aH (aa (aj aO (pv 5) ab) (aa (pv 6) ae))) ae))) ae)))) aL) (bM (bh (bD (bj (aJ bX hr (aa (pv 0) (aa (pv 1) (aa (pv 2) (aa (aj aO (pv 5) ab) (aa (pv 6) ae)))))))) (ai (dG (gj vv vF vE b7 (pv 3) (aa (aH (aa (aH (aa (aj aO (pv 5) ab) (aa (pv 6) ae))) (aa (aH (aa (aj aO (pv 5) ab) (aa (aj aO (pv 6) ab) ae))) ae))) ae)))) aL) (bM (bh (bD (bj (aJ bX hr (aa (pv 0) (aa (pv 1) (aa (pv 2) (aa (pv 5) (aa (aj aO (pv 6) ab) ae)))))))) (ai (dG (gj vv vF vE b7 (pv 3) (aa (aH (aa (aH (aa (aj aO (pv 5) ab) (aa (aj aO (pv 6) ab) ae))) (aa (aH (aa (pv 5) (aa (aj aO (pv 6) ab) ae))) ae))) ae)))) aL) (ai (bh (bD (bj (aJ bX hr (aa (pv 0) (aa (pv 1) (aa (pv 2) (aa (aj aT (pv 5) ab) (aa (pv 6) ae)))))))) (ai (dG (gj vv vF vE b7 (pv 3) (aa (aH (aa (aH (aa (pv 5) (aa (aj aO (pv 6) ab) ae))) (aa (aH (aa (pv 5) (aa (pv 6) ae))) ae))) ae)))) aL))))) aL)) ?_;intro kS1x2 pS1x2;refine aC 1 1 (ag (aq (i:=6) cb.nd rfl (by trivial) (aj bT (pv 4) (pv 0))) pS1x2) ?_;intro kS1x1 pS1x1;refine aC 1 0 (ag (aq (i:=5) cb.nd rfl (by trivial) (aj bp (pv 4) (pv 0))) pS1x1) ?_;intro kS1x0 pS1x0;refine ah 1 (ag (cc vk rfl (bN (by rfl) B.range (aa (aj cf (pv 0) (pv 1)) ae)) (aR (i:=4) cb.nd rfl (by trivial)) pS1x0) pR2) ?_;intro kR1 pR1;refine⟨_,(ag (aq (i:=3) cb.nd rfl (by trivial) (d8 ae)) pR1),?_⟩;obtain⟨G,eG⟩:∃G,LO.grd w h g=G:=⟨_,rfl⟩;have hwh:w*h<=64:=Nat.mul_le_mul hw8 hh8;refine⟨aB rfl,fun l hl=>?_⟩;have u1:=ao.upd (o:=.lst []) hl;have k1:(upd H l (.lst [])) l=some (.lst []):=af;generalize (upd H l (.lst []))=H1 at u1 k1 ⊢;refine⟨_,rfl,_,rfl,_,_,rfl,rfl,.inl ⟨by omega,by omega⟩,?_⟩;have e1:((w:Nat):Int)*((h:Nat):Int)=((w*h:Nat):Int):=(Int.natCast_mul ..).symm;refine⟨_,rfl,by rw[e1];omega,by rw[e1];omega,?_⟩;rw[show(((w:Nat):Int)*((h:Nat):Int)).toNat=w*h by rw[e1];rfl];obtain⟨FF,eF⟩:∃FF:Nat->List LO.Sd,FF=fun n=>(List.range n).flatMap fun k=>if g.testBit k=true then(LO.bH ((k % w:Nat):Int) ((k / w:Nat):Int)).filter (LO.brd G)else[]:=⟨_,rfl⟩
 refine cU (lo:=0) (n:=w*h) (fun k σ H2=>∃(o4 o5 o6:Option V)(ys:List V),σ=[some (.int (w:Nat)),some (.int (h:Nat)),some (.int (g:Nat)),some (.ref l),o4,o5,o6]/\ao H H2/\H2 l=some (.lst ys)/\Paired (aN K H2) ys (FF k)/\(FF k).length<=4*k) ⟨none,none,none,[],rfl,u1,k1,by rw[eF];exact .nil,by rw[eF];exact vg _⟩ ?_ ?_
 ·rintro k σ H2 hk ⟨o4,o5,o6,ys,rfl,s2,kl,pr,lF⟩;rw[show(0:Int)+(k:Int)=((k:Nat):Int) by omega];refine dD ?_;intro kD1;refine⟨_,rfl,_,rfl,_,_,rfl,rfl,(by show(0:Int)<(w:Nat);omega),?_⟩;refine⟨_,rfl,_,rfl,_,_,rfl,rfl,⟨by omega,by omega⟩,?_⟩;obtain⟨x,ex⟩:∃x:Int,x=((k % w:Nat):Int):=⟨_,rfl⟩;obtain⟨y,ey⟩:∃y:Int,y=((k / w:Nat):Int):=⟨_,rfl⟩;have e1:((k:Nat):Int) % ((w:Nat):Int)=x:=by rw[ex];rfl
  have e2:((k:Nat):Int) / ((w:Nat):Int)=y:=by rw[ey];rfl
  simp only[e1,e2];refine⟨_,rfl,_,rfl,g,k,rfl,by omega,_,rfl,?_⟩;have eFk:FF (k+1)=FF k++(if g.testBit k=true then(LO.bH ((k % w:Nat):Int) ((k / w:Nat):Int)).filter (LO.brd G)else[]):=by rw[eF];show(List.range (k+1)).flatMap _=_;rw[List.range_succ,List.flatMap_append];simp
  refine br (fun hb=>?_) (fun hb=>?_)
  ·rw[um hb,<-ex,<-ey]at eFk;have hG:G x y=true:=by
    rw[<-eG,ex,ey];unfold LO.grd;have m1:=Nat.mod_lt k hw;have m2:k / w<h:=Nat.div_lt_of_lt_mul hk;rw[uD (show(0:Int)<=((k % w:Nat):Int)from Int.natCast_nonneg _),uD (show((k % w:Nat):Int)<((w:Nat):Int)from Int.ofNat_lt.mpr m1),uD (show(0:Int)<=((k / w:Nat):Int)from Int.natCast_nonneg _),uD (show((k / w:Nat):Int)<((h:Nat):Int)from Int.ofNat_lt.mpr m2),vb,vb,Nat.mul_comm,Nat.div_add_mod];exact hb
   obtain⟨B1,B2,B3,B4⟩:=LO.ua G _ _ hG;have pr:Paired (aN K H2) ys (FF k++((LO.bH x y).take 0).filter (LO.brd G)):=by rw[List.take_zero,wc,vn];exact pr
   have lfil:∀i,(((LO.bH x y).take i).filter (LO.brd G)).length<=4:=fun i=>by
    have a:=(List.filter_sublist (p:=LO.brd G) (l:=(LO.bH x y).take i)).length_le;have b:((LO.bH x y).take i).length<=4:=by rw[uG];exact Nat.min_le_right _ _
    omega
   have len:∀{ys:List V}{H2:Hp}(i:Nat),Paired (aN K H2) ys (FF k++((LO.bH x y).take i).filter (LO.brd G))->ys.length<sizeLine:=fun i p=>by rw[uL p,uV];have:=lfil i;exact bf (by omega)
   have fin:∀{ys:List V}(H2:Hp),ao H H2->H2 l=some (.lst ys)->Paired (aN K H2) ys (FF k++((LO.bH x y).take 4).filter (LO.brd G))->∃(o4 o5 o6:Option V)(ys:List V),[some (V.int (w:Nat)),some (.int (h:Nat)),some (.int (g:Nat)),some (.ref l),some (.int (k:Nat)),some (.int x),some (.int y)]=[some (.int (w:Nat)),some (.int (h:Nat)),some (.int (g:Nat)),some (.ref l),o4,o5,o6]/\ao H H2/\H2 l=some (.lst ys)/\Paired (aN K H2) ys (FF (k+1))/\(FF (k+1)).length<=4*(k+1):=fun H2 a b c=>⟨_,_,_,_,rfl,a,b,by rw[eFk];exact c,by rw[eFk,uV];have:=lfil 4;have e4:((LO.bH x y).take 4)=LO.bH x y:=rfl;rw[e4]at this;omega⟩;refine⟨fun σ H2=>∃ys,σ=[some (.int (w:Nat)),some (.int (h:Nat)),some (.int (g:Nat)),some (.ref l),some (.int (k:Nat)),some (.int x),some (.int y)]/\ao H H2/\H2 l=some (.lst ys)/\Paired (aN K H2) ys (FF k++((LO.bH x y).take 1).filter (LO.brd G)),?_,?_⟩
   ·have e0:((LO.bH x y).take 1).filter (LO.brd G)=((LO.bH x y).take 0).filter (LO.brd G)++(if LO.brd G (⟨x,y,.e⟩:LO.Sd)=true then[(⟨x,y,.e⟩:LO.Sd)]else[]):=by
     show(((LO.bH x y).take 0)++[(⟨x,y,.e⟩:LO.Sd)]).filter (LO.brd G)=_;rw[vK,List.filter_cons,wc]
    refine⟨_,rfl,_,rfl,_,rfl,_,rfl,_,rfl,_,_,rfl,rfl,w,h,g,x,(y-1),rfl,⟨hw,hw8⟩,⟨hh,hh8⟩,_,rfl,?_⟩;refine br (fun z=>?_) (fun z=>?_)
    ·replace z:LO.brd G (⟨x,y,.e⟩:LO.Sd)=true:=by
      rw[B1,<-eG];exact z
     rw[um z]at e0;refine⟨_,rfl,.inl ⟨rfl,_,SqL.of kl⟩,_,rfl,_,rfl,aB rfl,fun t1 ht1=>?_⟩;have u1:=ao.upd (o:=.tup [.int x,.int y]) ht1;have k1:SqT K (upd H2 t1 (.tup [.int x,.int y])) t1 [.int x,.int y]:=SqT.of af;generalize (upd H2 t1 (.tup [.int x,.int y]))=G1 at u1 k1 ⊢;refine⟨_,rfl,_,_,rfl,rfl,_,rfl,aB rfl,fun t2 ht2=>?_⟩;have u2:=ao.upd (o:=.tup [.int (x+1),.int y]) ht2;have k2:SqT K (upd G1 t2 (.tup [.int (x+1),.int y])) t2 [.int (x+1),.int y]:=SqT.of af;generalize (upd G1 t2 (.tup [.int (x+1),.int y]))=G2 at u2 k2 ⊢;refine⟨aB rfl,fun t3 ht3=>?_⟩;have u3:=ao.upd (o:=.tup [.ref t1,.ref t2]) ht3;have s3:=u1.trans (u2.trans u3);have hS:LT.cC K (upd G2 t3 (.tup [.ref t1,.ref t2])) t3 (⟨x,y,.e⟩:LO.Sd):=⟨t1,t2,SqT.of af,(u2.trans u3).tup k1,sq2 (u3.tup k2) (by simp[LO.Sd.ex,LO.Dr.dx]<;>omega) (by simp[LO.Sd.ey,LO.Dr.dy]<;>omega)⟩;generalize (upd G2 t3 (.tup [.ref t1,.ref t2]))=G3 at u3 s3 hS ⊢;refine⟨l,_,_,rfl,rfl,s3 _ _ kl,len _ pr,?_⟩;have tk:=TK.lst (o:=.lst (ys++[.ref t3])) (s3 _ _ kl);have sm:ao H (upd G3 l (.lst (ys++[.ref t3]))):=fun b5 o5 e5=>by rw[ax (fun z=>by rw[z,hl]at e5;cases e5)];exact s3 _ _ (s2 _ _ e5)
     have pr':Paired (aN K (upd G3 l (.lst (ys++[.ref t3])))) (ys++[.ref t3]) (FF k++((LO.bH x y).take 1).filter (LO.brd G)):=by rw[e0,<-uJ];exact Paired.app (Paired.imp (fun _ _ z=>aN.tk tk (aN.tk s3.tk z)) pr) (.cons ⟨t3,rfl,aS tk hS⟩ .nil)
     exact⟨_,rfl,sm,af,pr'⟩
    ·replace z:¬LO.brd G (⟨x,y,.e⟩:LO.Sd)=true:=fun c=>z (by
      rw[B1,<-eG]at c
      exact c)
     rw[uo z,vn]at e0;rw[<-e0]at pr;exact⟨_,rfl,s2,kl,pr⟩
   rintro σ H2 ⟨ys,rfl,s2,kl,pr⟩;refine⟨fun σ H2=>∃ys,σ=[some (.int (w:Nat)),some (.int (h:Nat)),some (.int (g:Nat)),some (.ref l),some (.int (k:Nat)),some (.int x),some (.int y)]/\ao H H2/\H2 l=some (.lst ys)/\Paired (aN K H2) ys (FF k++((LO.bH x y).take 2).filter (LO.brd G)),?_,?_⟩
   ·have e1:((LO.bH x y).take 2).filter (LO.brd G)=((LO.bH x y).take 1).filter (LO.brd G)++(if LO.brd G (⟨x+1,y,.n⟩:LO.Sd)=true then[(⟨x+1,y,.n⟩:LO.Sd)]else[]):=by
     show(((LO.bH x y).take 1)++[(⟨x+1,y,.n⟩:LO.Sd)]).filter (LO.brd G)=_;rw[vK,List.filter_cons,wc]
    refine⟨_,rfl,_,rfl,_,rfl,_,rfl,_,_,rfl,rfl,_,rfl,w,h,g,(x+1),y,rfl,⟨hw,hw8⟩,⟨hh,hh8⟩,_,rfl,?_⟩;refine br (fun z=>?_) (fun z=>?_)
    ·replace z:LO.brd G (⟨x+1,y,.n⟩:LO.Sd)=true:=by
      rw[B2,<-eG];exact z
     rw[um z]at e1;refine⟨_,rfl,.inl ⟨rfl,_,SqL.of kl⟩,_,rfl,_,_,rfl,rfl,_,rfl,aB rfl,fun t1 ht1=>?_⟩;have u1:=ao.upd (o:=.tup [.int (x+1),.int y]) ht1;have k1:SqT K (upd H2 t1 (.tup [.int (x+1),.int y])) t1 [.int (x+1),.int y]:=SqT.of af;generalize (upd H2 t1 (.tup [.int (x+1),.int y]))=G1 at u1 k1 ⊢;refine⟨_,rfl,_,_,rfl,rfl,_,rfl,_,_,rfl,rfl,aB rfl,fun t2 ht2=>?_⟩;have u2:=ao.upd (o:=.tup [.int (x+1),.int (y+1)]) ht2;have k2:SqT K (upd G1 t2 (.tup [.int (x+1),.int (y+1)])) t2 [.int (x+1),.int (y+1)]:=SqT.of af;generalize (upd G1 t2 (.tup [.int (x+1),.int (y+1)]))=G2 at u2 k2 ⊢;refine⟨aB rfl,fun t3 ht3=>?_⟩;have u3:=ao.upd (o:=.tup [.ref t1,.ref t2]) ht3;have s3:=u1.trans (u2.trans u3);have hS:LT.cC K (upd G2 t3 (.tup [.ref t1,.ref t2])) t3 (⟨x+1,y,.n⟩:LO.Sd):=⟨t1,t2,SqT.of af,(u2.trans u3).tup k1,sq2 (u3.tup k2) (by simp[LO.Sd.ex,LO.Dr.dx]<;>omega) (by simp[LO.Sd.ey,LO.Dr.dy]<;>omega)⟩;generalize (upd G2 t3 (.tup [.ref t1,.ref t2]))=G3 at u3 s3 hS ⊢;refine⟨l,_,_,rfl,rfl,s3 _ _ kl,len _ pr,?_⟩;have tk:=TK.lst (o:=.lst (ys++[.ref t3])) (s3 _ _ kl);have sm:ao H (upd G3 l (.lst (ys++[.ref t3]))):=fun b5 o5 e5=>by rw[ax (fun z=>by rw[z,hl]at e5;cases e5)];exact s3 _ _ (s2 _ _ e5)
     have pr':Paired (aN K (upd G3 l (.lst (ys++[.ref t3])))) (ys++[.ref t3]) (FF k++((LO.bH x y).take 2).filter (LO.brd G)):=by rw[e1,<-uJ];exact Paired.app (Paired.imp (fun _ _ z=>aN.tk tk (aN.tk s3.tk z)) pr) (.cons ⟨t3,rfl,aS tk hS⟩ .nil)
     exact⟨_,rfl,sm,af,pr'⟩
    ·replace z:¬LO.brd G (⟨x+1,y,.n⟩:LO.Sd)=true:=fun c=>z (by
      rw[B2,<-eG]at c
      exact c)
     rw[uo z,vn]at e1;rw[<-e1]at pr;exact⟨_,rfl,s2,kl,pr⟩
   rintro σ H2 ⟨ys,rfl,s2,kl,pr⟩;refine⟨fun σ H2=>∃ys,σ=[some (.int (w:Nat)),some (.int (h:Nat)),some (.int (g:Nat)),some (.ref l),some (.int (k:Nat)),some (.int x),some (.int y)]/\ao H H2/\H2 l=some (.lst ys)/\Paired (aN K H2) ys (FF k++((LO.bH x y).take 3).filter (LO.brd G)),?_,?_⟩
   ·have e2:((LO.bH x y).take 3).filter (LO.brd G)=((LO.bH x y).take 2).filter (LO.brd G)++(if LO.brd G (⟨x+1,y+1,.w⟩:LO.Sd)=true then[(⟨x+1,y+1,.w⟩:LO.Sd)]else[]):=by
     show(((LO.bH x y).take 2)++[(⟨x+1,y+1,.w⟩:LO.Sd)]).filter (LO.brd G)=_;rw[vK,List.filter_cons,wc]
    refine⟨_,rfl,_,rfl,_,rfl,_,rfl,_,rfl,_,_,rfl,rfl,w,h,g,x,(y+1),rfl,⟨hw,hw8⟩,⟨hh,hh8⟩,_,rfl,?_⟩;refine br (fun z=>?_) (fun z=>?_)
    ·replace z:LO.brd G (⟨x+1,y+1,.w⟩:LO.Sd)=true:=by
      rw[B3,<-eG];exact z
     rw[um z]at e2;refine⟨_,rfl,.inl ⟨rfl,_,SqL.of kl⟩,_,rfl,_,_,rfl,rfl,_,rfl,_,_,rfl,rfl,aB rfl,fun t1 ht1=>?_⟩;have u1:=ao.upd (o:=.tup [.int (x+1),.int (y+1)]) ht1;have k1:SqT K (upd H2 t1 (.tup [.int (x+1),.int (y+1)])) t1 [.int (x+1),.int (y+1)]:=SqT.of af;generalize (upd H2 t1 (.tup [.int (x+1),.int (y+1)]))=G1 at u1 k1 ⊢;refine⟨_,rfl,_,rfl,_,_,rfl,rfl,aB rfl,fun t2 ht2=>?_⟩;have u2:=ao.upd (o:=.tup [.int x,.int (y+1)]) ht2;have k2:SqT K (upd G1 t2 (.tup [.int x,.int (y+1)])) t2 [.int x,.int (y+1)]:=SqT.of af;generalize (upd G1 t2 (.tup [.int x,.int (y+1)]))=G2 at u2 k2 ⊢;refine⟨aB rfl,fun t3 ht3=>?_⟩;have u3:=ao.upd (o:=.tup [.ref t1,.ref t2]) ht3;have s3:=u1.trans (u2.trans u3);have hS:LT.cC K (upd G2 t3 (.tup [.ref t1,.ref t2])) t3 (⟨x+1,y+1,.w⟩:LO.Sd):=⟨t1,t2,SqT.of af,(u2.trans u3).tup k1,sq2 (u3.tup k2) (by simp[LO.Sd.ex,LO.Dr.dx]<;>omega) (by simp[LO.Sd.ey,LO.Dr.dy]<;>omega)⟩;generalize (upd G2 t3 (.tup [.ref t1,.ref t2]))=G3 at u3 s3 hS ⊢;refine⟨l,_,_,rfl,rfl,s3 _ _ kl,len _ pr,?_⟩;have tk:=TK.lst (o:=.lst (ys++[.ref t3])) (s3 _ _ kl);have sm:ao H (upd G3 l (.lst (ys++[.ref t3]))):=fun b5 o5 e5=>by rw[ax (fun z=>by rw[z,hl]at e5;cases e5)];exact s3 _ _ (s2 _ _ e5)
     have pr':Paired (aN K (upd G3 l (.lst (ys++[.ref t3])))) (ys++[.ref t3]) (FF k++((LO.bH x y).take 3).filter (LO.brd G)):=by rw[e2,<-uJ];exact Paired.app (Paired.imp (fun _ _ z=>aN.tk tk (aN.tk s3.tk z)) pr) (.cons ⟨t3,rfl,aS tk hS⟩ .nil)
     exact⟨_,rfl,sm,af,pr'⟩
    ·replace z:¬LO.brd G (⟨x+1,y+1,.w⟩:LO.Sd)=true:=fun c=>z (by
      rw[B3,<-eG]at c
      exact c)
     rw[uo z,vn]at e2;rw[<-e2]at pr;exact⟨_,rfl,s2,kl,pr⟩
   rintro σ H2 ⟨ys,rfl,s2,kl,pr⟩;have e3:((LO.bH x y).take 4).filter (LO.brd G)=((LO.bH x y).take 3).filter (LO.brd G)++(if LO.brd G (⟨x,y+1,.s⟩:LO.Sd)=true then[(⟨x,y+1,.s⟩:LO.Sd)]else[]):=by show(((LO.bH x y).take 3)++[(⟨x,y+1,.s⟩:LO.Sd)]).filter (LO.brd G)=_;rw[vK,List.filter_cons,wc]
   refine⟨_,rfl,_,rfl,_,rfl,_,rfl,_,_,rfl,rfl,_,rfl,w,h,g,(x-1),y,rfl,⟨hw,hw8⟩,⟨hh,hh8⟩,_,rfl,?_⟩;refine br (fun z=>?_) (fun z=>?_)
   ·replace z:LO.brd G (⟨x,y+1,.s⟩:LO.Sd)=true:=by
     rw[B4,<-eG];exact z
    rw[um z]at e3;refine⟨_,rfl,.inl ⟨rfl,_,SqL.of kl⟩,_,rfl,_,rfl,_,_,rfl,rfl,aB rfl,fun t1 ht1=>?_⟩;have u1:=ao.upd (o:=.tup [.int x,.int (y+1)]) ht1;have k1:SqT K (upd H2 t1 (.tup [.int x,.int (y+1)])) t1 [.int x,.int (y+1)]:=SqT.of af;generalize (upd H2 t1 (.tup [.int x,.int (y+1)]))=G1 at u1 k1 ⊢;refine⟨_,rfl,_,rfl,aB rfl,fun t2 ht2=>?_⟩;have u2:=ao.upd (o:=.tup [.int x,.int y]) ht2;have k2:SqT K (upd G1 t2 (.tup [.int x,.int y])) t2 [.int x,.int y]:=SqT.of af;generalize (upd G1 t2 (.tup [.int x,.int y]))=G2 at u2 k2 ⊢;refine⟨aB rfl,fun t3 ht3=>?_⟩;have u3:=ao.upd (o:=.tup [.ref t1,.ref t2]) ht3;have s3:=u1.trans (u2.trans u3);have hS:LT.cC K (upd G2 t3 (.tup [.ref t1,.ref t2])) t3 (⟨x,y+1,.s⟩:LO.Sd):=⟨t1,t2,SqT.of af,(u2.trans u3).tup k1,sq2 (u3.tup k2) (by simp[LO.Sd.ex,LO.Dr.dx]<;>omega) (by simp[LO.Sd.ey,LO.Dr.dy]<;>omega)⟩;generalize (upd G2 t3 (.tup [.ref t1,.ref t2]))=G3 at u3 s3 hS ⊢;refine⟨l,_,_,rfl,rfl,s3 _ _ kl,len _ pr,?_⟩;have tk:=TK.lst (o:=.lst (ys++[.ref t3])) (s3 _ _ kl);have sm:ao H (upd G3 l (.lst (ys++[.ref t3]))):=fun b5 o5 e5=>by rw[ax (fun z=>by rw[z,hl]at e5;cases e5)];exact s3 _ _ (s2 _ _ e5)
    have pr':Paired (aN K (upd G3 l (.lst (ys++[.ref t3])))) (ys++[.ref t3]) (FF k++((LO.bH x y).take 4).filter (LO.brd G)):=by rw[e3,<-uJ];exact Paired.app (Paired.imp (fun _ _ z=>aN.tk tk (aN.tk s3.tk z)) pr) (.cons ⟨t3,rfl,aS tk hS⟩ .nil)
    exact fin _ sm af pr'
   ·replace z:¬LO.brd G (⟨x,y+1,.s⟩:LO.Sd)=true:=fun c=>z (by
     rw[B4,<-eG]at c
     exact c)
    rw[uo z,vn]at e3;rw[<-e3]at pr;exact fin _ s2 kl pr
  ·rw[uo hb,vn]at eFk;exact⟨_,_,_,ys,rfl,s2,kl,by rw[eFk];exact pr,by rw[eFk];omega⟩
 ·rintro σ H2 ⟨o4,o5,o6,ys,rfl,s2,kl,pr,lF⟩;have eFL:FF (w*h)=LO.FL w h g (w*h):=by rw[eF,<-eG];rfl
  rw[eFL]at pr lF;obtain⟨zs,rfl,ez,hz⟩:=gu pr;have lz:zs.length<=256:=by rw[<-ez,uj]at lF;omega
  have bz:∀z∈zs,LO.brd (LO.grd w h g) z.2=true:=fun z hz'=>(LO.oV hw z.2).mp (ez▸vC hz');refine⟨_,rfl,l,zs,rfl,SqL.of kl,hz,fun z hz'=>LO.f7 hw8 hh8 (LO.ba.mp (bz z hz')).1,by omega,fun l2 ys hl2 pm so=>?_⟩;have u5:=ao.upd (o:=.lst (ys.map fun z=>V.ref z.1)) hl2;have pm2:(ys.map (·.2)).Perm (LO.FL w h g (w*h)):=ez▸pm.map _;refine q l2 _ (ys.map (·.2)) _ (s2.trans u5) af (gs fun z hz'=>aS u5.tk (hz z (pm.mem_iff.mp hz'))) (pm2.nodup_iff.mpr (LO.qQ _).1) (fun t=>pm2.mem_iff.trans (LO.oV hw t)) ?_ ?_
  ·rw[List.pairwise_map]at so ⊢;exact so
  ·rw[uj,pm.length_eq];exact lz
def c7(K:Frag):Sp:=fun vs H Q _=>∃(l:Addr)(xs:List V)(U:List LO.Sd)(w h:Nat),vs=[.ref l,.int (w:Nat),.int (h:Nat)]/\H l=some (.lst xs)/\Paired (aN K H) xs U/\(∀s∈U,(0<=s.x/\s.x<=w)/\(0<=s.y/\s.y<=h)/\(0<=s.ex/\s.ex<=w)/\(0<=s.ey/\s.ey<=h))/\Q (.bl true) H
variable(bP:Df P w K mg base 3 "_law_sides_told" ["_law_told","_law_wide","_law_high"] (c7 K))
theorem dc:aE ["_law_told","_law_wide","_law_high","_law_side"] ["_law_told","_law_wide","_law_high"] (au (top 25)):=by trivial
include B bx in
theorem fL(T:Tx K mg "_law_sides_told" (top 25) ["_law_told","_law_wide","_law_high"]):Df P w K mg base 3 "_law_sides_told" ["_law_told","_law_wide","_law_high"] (c7 K):=by
 refine T.df dc (by rintro _ _ _ _ ⟨l,xs,U,w,h,rfl,hl,px,inn,q⟩;rfl) ?_;rintro f _ A _ s H _ Q E hr ⟨l,xs,U,w,h,rfl,hl,px,inn,q⟩;refine aZ ?_;intro kX;refine ah 2 (ai (aD cI)) ?_;intro kR2 pR2;refine aC 1 1 (ai (bh ((d0 (bD (bj (aJ bx hr (aa (av ay (pv 3) ab (fun _ _=>rfl)) (aa (pv 1) (aa (pv 2) ae)))))) (dZ (bD (bj (aJ bx hr (aa (av ay (pv 3) ab (fun _ _=>rfl)) (aa (pv 1) (aa (pv 2) ae)))))))).pt) (ai (aD cI)) aL)) ?_;intro kS1x1 pS1x1;refine aC 1 0 (ag (bh ((d0 (bD (bj (aM kE (by rfl) B.isinstance boot_isinstance (aa (pv 3) (aa (dH (x:="tuple") (v:=.ty "tuple") (by rfl) B.tuple boot_tuple rfl) ae))))) (dZ (aU mh (aM a7 (by rfl) B.len PySem.boot_len (aa (pv 3) ae)) ab (aF _)))).pt) (ai (aD cI)) aL) pS1x1) ?_;intro kS1x0 pS1x0;refine ah 1 (ag (cc vk rfl (cN (pv 0)) (aR (i:=3) dc.nd rfl (by trivial)) pS1x0) pR2) ?_;intro kR1 pR1;refine⟨_,(ag (bh (bD (bj (aM ed (by rfl) B.isinstance boot_isinstance (aa (pv 0) (aa (dH (x:="list") (v:=.ty "list") (by rfl) B.list boot_list rfl) ae))))) (ai (aD cI)) aL) pR1),?_⟩;refine⟨_,rfl,_,_,_,_,rfl,c0.lst hl,lH K,_,rfl,dP ?_⟩;refine⟨_,rfl,l,rfl,⟨_,SqL.of hl⟩,cX (K:=K) (a:=l) (xs:=xs) (fun i σ H2=>∃(o3:Option V),σ=[some (.ref l),some (.int (w:Nat)),some (.int (h:Nat)),o3]/\H2=H) ⟨none,rfl,rfl⟩ (fun i σ H2 _ hPz=>hPz.elim fun _ hPz=>(fun e=>by rw[e];exact SqL.of hl) (hPz.2)) ?_ ?_⟩
 ·rintro i v σ H2 hi ⟨o3,rfl,rfl⟩;refine dD ?_;intro kD1;obtain⟨s,hs,b,rfl,p,r,h1,h2,h3⟩:=bg px hi;obtain⟨i1,i2,i3,i4⟩:=inn s (uF hs);refine⟨_,rfl,_,_,b,_,_,_,rfl,rfl,h1,rfl,(fun u z=>z),oE K,_,rfl,dP ?_⟩;refine⟨_,rfl,b,_,rfl,.inr h1,rfl,_,rfl,dP ?_⟩;refine⟨_,rfl,b,_,_,_,rfl,rfl,h1,ak (j:=0) rfl,_,rfl,_,rfl,p,(s.x,s.y),w,h,rfl,h2,i1,i2,_,rfl,dP ?_⟩;refine⟨_,rfl,b,_,_,_,rfl,rfl,h1,ak (j:=1) rfl,_,rfl,_,rfl,r,(s.ex,s.ey),w,h,rfl,h3,i3,i4,_,rfl,dP ?_⟩;exact⟨_,rfl,rfl⟩
 ·rintro σ H2 ⟨o3,rfl,rfl⟩;exact q
def dA(K:Frag):Sp:=fun vs H Q _=>∃(a:Addr)(R R':List LO.Pt)(c:LO.Pt)(w h:Nat),vs=[.ref a,.int (w:Nat),.int (h:Nat)]/\dQ K H a R/\4<=R.length/\R.length<=256/\(∀p∈R,(0<=p.1/\p.1<=w)/\(0<=p.2/\p.2<=h))/\(∀i p q,R[i]?=some q->((R.take i).getLast?.or R.getLast?)=some p->decide (p.1=q.1)≠decide (p.2=q.2))/\R=c::R'/\(∀p∈R,LT.ltP p c=false)/\Q (.bl true) H
variable(bU:Df P w K mg base 3 "_law_ring_told" ["_law_ring","_law_wide","_law_high"] (dA K))
theorem cA:aE ["_law_ring","_law_wide","_law_high","_law_point_here","_law_k"] ["_law_ring","_law_wide","_law_high"] (au (top 26)):=by trivial
include B bx in
theorem fT(T:Tx K mg "_law_ring_told" (top 26) ["_law_ring","_law_wide","_law_high"]):Df P w K mg base 3 "_law_ring_told" ["_law_ring","_law_wide","_law_high"] (dA K):=by
 refine T.df cA (by rintro _ _ _ _ ⟨a,R,R',c,w,h,rfl,hP,four,l256,pb,far,eR,lst,q⟩;rfl) ?_;rintro f _ A _ s H _ Q E hr ⟨a,R,R',c,w,h,rfl,hP,four,l256,pb,far,eR,lst,q⟩;have hu:=hr.units;refine aZ ?_;intro kX;refine ah 3 (ai (aD (aY (kY hu) (av aV (pv 0) ab (fun _ _=>rfl)) (aM (LT.nB hu rfl) (by rfl) B.min boot_min (aa (pv 0) ae)) (aF _)))) ?_;intro kR3 pR3;refine ah 2 (ag (cc vk rfl (bN (by rfl) B.range (aa (aM a7 (by rfl) B.len PySem.boot_len (aa (pv 0) ae)) ae)) (aR (i:=4) cA.nd rfl (by trivial)) (ai (bh (aU cq (aY cq (av ay (av aV (pv 0) (aj aT (pv 4) ab) (fun _ _=>rfl)) ab (fun _ _=>rfl)) (av ay (av aV (pv 0) (pv 4) (fun _ _=>rfl)) ab (fun _ _=>rfl)) (aF _)) (aY cq (av ay (av aV (pv 0) (aj aT (pv 4) ab) (fun _ _=>rfl)) ab (fun _ _=>rfl)) (av ay (av aV (pv 0) (pv 4) (fun _ _=>rfl)) ab (fun _ _=>rfl)) (aF _)) (aF _)) (ai (aD cI)) aL))) pR3) ?_;intro kR2 pR2;refine ah 1 (ag (cc vk rfl (cN (pv 0)) (aR (i:=3) cA.nd rfl (by trivial)) (ai (bh (bD (bj (aJ bx hr (aa (pv 3) (aa (pv 1) (aa (pv 2) ae)))))) (ai (aD cI)) aL))) pR2) ?_;intro kR1 pR1;refine⟨_,(ag (bh ((d0 (bD (bj (aM ed (by rfl) B.isinstance boot_isinstance (aa (pv 0) (aa (dH (x:="list") (v:=.ty "list") (by rfl) B.list boot_list rfl) ae))))) (dZ (aU gQ (aM a7 (by rfl) B.len PySem.boot_len (aa (pv 0) ae)) ab (aF _)))).pt) (ai (aD cI)) aL) pR1),?_⟩;obtain⟨xs,hx,px⟩:=hP;have lx:xs.length=R.length:=uL px;refine⟨_,rfl,_,_,_,_,rfl,c0.lst hx,lH K,_,rfl,dP ?_⟩;refine⟨_,rfl,a,xs,rfl,.inl (SqL.of hx),_,_,rfl,rfl,_,rfl,?_⟩;refine br (fun z=>absurd (uW z) (by rw[lx];omega)) (fun _=>?_);refine⟨_,rfl,a,rfl,⟨_,SqL.of hx⟩,cX (K:=K) (a:=a) (xs:=xs) (fun i σ H2=>∃(o3:Option V),σ=[some (.ref a),some (.int (w:Nat)),some (.int (h:Nat)),o3,none]/\H2=H) ⟨none,rfl,rfl⟩ (fun i σ H2 _ hPz=>hPz.elim fun _ hPz=>(fun e=>by rw[e];exact SqL.of hx) (hPz.2)) ?_ ?_⟩
 ·rintro i v σ H2 hi ⟨o3,rfl,rfl⟩;refine dD ?_;intro kD1;obtain⟨p,hp,b,rfl,hb⟩:=bg px hi;obtain⟨i1,i2⟩:=pb p (uF hp);refine⟨_,rfl,_,rfl,_,rfl,b,p,w,h,rfl,hb,i1,i2,_,rfl,dP ?_⟩;exact⟨_,rfl,rfl⟩
 rintro σ H2 ⟨o3,rfl,rfl⟩;refine⟨_,rfl,a,xs,rfl,.inl (SqL.of hx),_,rfl,by omega,by omega,?_⟩;rw[vb];refine cU (lo:=0) (n:=xs.length) (fun i σ H3=>∃(o4:Option V),σ=[some (.ref a),some (.int (w:Nat)),some (.int (h:Nat)),o3,o4]/\H3=H2) ⟨none,rfl,rfl⟩ ?_ ?_
 ·rintro i σ H3 hi ⟨o4,rfl,rfl⟩;rw[show(0:Int)+(i:Int)=((i:Nat):Int) by omega];refine dD ?_;intro kD2;have hi':xs[i]?=some xs[i]:=uq hi;obtain⟨v',q1,q0,a1,hq1,⟨b,eb,hb⟩,hq0,⟨r,rfl,hr⟩⟩:=de px hi';rw[eb]at hi';refine⟨_,rfl,_,rfl,_,_,rfl,rfl,a,_,_,_,rfl,rfl,SqL.of hx,a1,r,_,_,_,rfl,rfl,hr,ak (j:=0) rfl,_,rfl,_,rfl,a,_,_,_,rfl,rfl,SqL.of hx,ak hi',b,_,_,_,rfl,rfl,hb,ak (j:=0) rfl,rfl,_,rfl,_,rfl,_,_,rfl,rfl,a,_,_,_,rfl,rfl,SqL.of hx,a1,r,_,_,_,rfl,rfl,hr,ak (j:=1) rfl,_,rfl,_,rfl,a,_,_,_,rfl,rfl,SqL.of hx,ak hi',b,_,_,_,rfl,rfl,hb,ak (j:=1) rfl,rfl,rfl,_,rfl,?_⟩;refine br (fun z=>absurd (tK z) (far i q0 q1 hq1 hq0)) (fun _=>?_);exact⟨_,rfl,rfl⟩
 ·rintro σ H3 ⟨o4,rfl,rfl⟩;obtain⟨zs,ez,eR2,hz⟩:=rj px;rw[eR]at px;cases px with
  |cons b0 _=>
   obtain⟨b0,rfl,hb0⟩:=b0;refine⟨_,rfl,a,_,_,_,rfl,rfl,SqL.of hx,ak (j:=0) rfl,_,rfl,a,zs,rfl,by rw[<-ez];exact SqL.of hx,hz,?_,fun b hb le=>?_⟩
   ·have:=congrArg List.length eR2;rw[uj]at this;omega
   ·have mc:c∈R:=(by rw[eR];exact uy ..);rw[<-eR2]at mc;obtain⟨y,my,ey⟩:=uO.mp mc;have l1:=le y my;rw[ey]at l1;have l2:=lst b.2 (by rw[<-eR2];exact vC hb);have e:=oy l1 l2;refine⟨_,_,kq hb0,kq (hz b hb),rfl,rfl,Nat.le_of_ble_eq_true rfl,?_⟩;rw[<-e,SeqAt.eqv_refl _ rfl];exact q
def jO(K:Frag)(P:Program)(w:World):Sp:=fun vs H Q _=>∃(a:Addr)(wd hh g:Nat),vs=[.ref a,.int (g:Nat)]/\SqT K H a [.int (wd:Nat),.int (hh:Nat)]/\(0<wd/\wd<=8)/\(0<hh/\hh<=8)/\g<2^(wd*hh)/\∀l vs Ws H',ao H H'->H' l=some (.lst vs)->Paired (iu K H') vs (Ws.map LO.aI)->LO.Rs (LO.grd wd hh g) Ws->(Ws.map fun W=>LT.ptN (LO.g8 W)).Pairwise (·<=·)->Ws.flatten.length<=256->Ws.length<=256->Q (.ref l) H'
variable(gz:Df P w K mg base 4 "rings" ["floor","cells"] (jO K P w))
theorem cG:aE ["floor","cells","some","known","walked","found","first","walk","side"] ["floor","cells"] (au (top 12)):=by trivial
include B dM cQ cS in
theorem om(T:Tx K mg "rings" (top 12) ["floor","cells"]):Df P w K mg base 4 "rings" ["floor","cells"] (jO K P w):=by
 refine T.df cG (by rintro _ _ _ _ ⟨a,wd,hh,g,rfl,hT,⟨hw,hw8⟩,⟨hh0,hh8⟩,hg,q⟩;rfl) ?_;rintro f _ A _ s H _ Q E hr ⟨a,wd,hh,g,rfl,hT,⟨hw,hw8⟩,⟨hh0,hh8⟩,hg,q⟩;have hu:=hr.units;refine aZ ?_;intro kX;refine ah 5 (ai (aD (aM (LT.h8 hu) (by rfl) B.sorted (by trivial) (aa (pv 5) ae)))) ?_;intro kR5 pR5;refine ah 4 (ag (cc vk rfl (cN (pv 2)) (aR (i:=6) cG.nd rfl (by trivial)) (ai (bh (i9 (iH hu (pv 6) (pv 4))) (ag (aq (i:=7) cG.nd rfl (by trivial) (aJ cQ hr (aa (pv 3) (aa (pv 6) ae)))) (ag (dG (gj vv vF vE b7 (pv 5) (aa (aJ cS hr (aa (pv 7) ae)) ae))) (ai (cc vk rfl (cN (pv 7)) (aR (i:=8) cG.nd rfl (by trivial)) (ai (md hu (pv 4) (pv 8) cI rfl)))))) aL))) pR5) ?_;intro kR4 pR4;refine ah 3 (ag (aq (i:=5) cG.nd rfl (by trivial) (d8 ae)) pR4) ?_;intro kR3 pR3;refine ah 2 (ag (aq (i:=4) cG.nd rfl (by trivial) j0) pR3) ?_;intro kR2 pR2;refine ah 1 (ag (aq (i:=3) cG.nd rfl (by trivial) (cT (lO rfl hu) (by rfl) B.dict boot_dict (aa (dC ["side"] [] (gr _ []) rfl (by rfl) rfl (by trivial) (by trivial) (bI (by rfl)) (ff (by rfl)) mN mN (eg (by decide)) (cN (pv 2)) (fun _ _ _ _=>aR (i:=0) (show(["side"]:List Str).Nodup by trivial) rfl (Or.inl rfl) (Or.inr rfl)) (fun _ _ _ _=>gO) (fun _ _ _ _=>(aH (aa (pv 0) (aa cI ae))))) ae))) pR2) ?_;intro kR1 pR1;refine⟨_,(ag (aq (i:=2) cG.nd rfl (by trivial) (aJ dM hr (aa (pv 0) (aa (pv 1) ae)))) pR1),?_⟩;refine⟨_,rfl,_,rfl,a,wd,hh,g,rfl,hT,⟨hw,hw8⟩,⟨hh0,hh8⟩,hg,fun ls vs U H1 s1 hls pU ndU memU soU lU=>?_⟩;obtain⟨zs,rfl,ezU,hz⟩:=gu pU;have lz:zs.length=U.length:=by rw[<-ezU,uj]
 refine⟨_,rfl,ls,rfl,⟨_,SqL.of hls⟩,fun D hD=>?_⟩;obtain⟨kvs,ek⟩:∃kvs:CT,kvs=zs.map fun z=>(aK z.2,z.1,V.bl true):=⟨_,rfl⟩;have lk:kvs.length=U.length:=by rw[ek,uj,lz]
 refine qP (K:=K) (a:=ls) (xs:=zs.map fun z=>V.ref z.1) (fun i acc H2=>ao H1 H2/\H2 D=some (.lst acc)/\Paired (fun v (kv:Col×Addr×V)=>∃r,v=.ref r/\SqT K H2 r [.ref kv.2.1,kv.2.2]/\dR K H2 kv.2.1 kv.1) acc (kvs.take i)) ⟨ao.upd hD,af,.nil⟩ (fun i acc H2 _ z=>SqL.of (z.1 _ _ hls)) ?_ ?_
 ·rintro i v acc H2 hi ⟨s2,h2,pr⟩;refine iO ?_;intro kq1 kr1;rw[uU]at hi;obtain⟨z,hzi,rfl⟩:=vN.mp hi;have hki:kvs[i]?=some (aK z.2,z.1,V.bl true):=by rw[ek,uU,hzi];rfl
  have cz:=bK (aS s2.tk (hz z (uF hzi)));refine⟨_,rfl,aB rfl,fun r hr=>?_⟩;have u3:=ao.upd (o:=.tup [.ref z.1,.bl true]) hr;have lacc:acc.length<sizeLine:=by rw[uL pr,uG];exact bf (by omega)
  have tk2:=TK.lst (o:=.lst (acc++[.ref r])) (u3 _ _ h2);refine⟨u3 _ _ h2,lacc,fun b5 o5 e5=>?_,af,?_⟩
  ·rw[ax (fun z=>by rw[z,hD]at e5;cases e5)];exact u3 _ _ (s2 _ _ e5)
  ·rw[uM,hki,uS];exact Paired.app (Paired.imp (fun _ _ ⟨r,e,h1,h2⟩=>⟨r,e,tk2.sq (u3.tup h1),(h2.tk u3.tk).tk tk2⟩) pr) (.cons ⟨r,rfl,tk2.sq (SqT.of af),(cz.tk u3.tk).tk tk2⟩ .nil)
 rintro acc H2 ⟨s2,h2,pr⟩;rw[uj,lz,<-lk,vl]at pr;refine⟨D,acc,kvs,rfl,h2,by omega,pr,fun dk ok hdk ho nmk=>?_⟩;have u3:=ao.upd (o:=cp dk ok) hdk
 have ck:cu P w K (upd H2 dk (cp dk ok)) dk ok (mkT kvs):=⟨af,ho,nmk,fun t ht=>by
  obtain⟨x,hx,e1,e2⟩:=qa t ht;rw[ek]at hx;obtain⟨z,hz',rfl⟩:=uO.mp hx;rw[e1,e2]
  exact(bK (aS s2.tk (hz z hz'))).tk u3.tk⟩
 have knk:Kn (mkT kvs) (fun s=>s∈U):=tq (by rw[ek,vy,<-ezU,vy];rfl);obtain⟨G,eG⟩:∃G,G=LO.grd wd hh g:=⟨_,rfl⟩;rw[<-eG]at memU;have hmk:∀t,(L2.atT (mkT kvs) (aK t)).isSome=LO.brd G t:=fun t=>vu.mpr ((knk.at t).trans (memU t));have sa:=s1.trans (s2.trans u3);have hlsa:=u3 _ _ (s2 _ _ hls);have hza:∀z∈zs,LT.cC K (upd H2 dk (cp dk ok)) z.1 z.2:=fun z h=>aS (s2.trans u3).tk (hz z h);generalize (upd H2 dk (cp dk ok))=H3 at ck sa hlsa hza ⊢;clear pr h2 s2 u3 hz;refine fun dw hdw nmw=>?_;have u4:=ao.upd (o:=cp dw cY) hdw;have cw:cu P w K (upd H3 dw (cp dw cY)) dw cY []:=⟨af,hZ P w,nmw,fun t ht=>nomatch ht⟩;generalize (upd H3 dw (cp dw cY))=H4 at u4 cw ⊢;refine⟨aB rfl,fun lf hlf=>?_⟩;have u5:=ao.upd (o:=.lst []) hlf;have cw5:=bY u5 cw;have k5:(upd H4 lf (.lst [])) lf=some (.lst []):=af;have s35:=u4.trans u5;generalize (upd H4 lf (.lst []))=H5 at u5 cw5 k5 s35 ⊢;have H3f:H3 lf=none:=by
  cases z:H3 lf with
  |none=>rfl
  |some o=>rw[u4 _ _ z]at hlf;cases hlf
 have okU:∀t∈U,LT.fE t:=fun t ht=>LO.f7 hw8 hh8 (LO.ba.mp (eG▸(memU t).mp ht)).1;have fin:∀V:List LO.Sd,V.Nodup->(∀t∈V,LO.brd G t=true)->V.length<=256:=fun V nd hb=>vS (LM.length_le_of_subset nd fun t ht=>(memU t).mpr (hb t ht)) lU;have hms:∀(i:Nat)(v:V),(zs.map fun z=>V.ref z.1)[i]?=some v->∃b sd,v=.ref b/\U[i]?=some sd/\LT.cC K H3 b sd:=fun i v hi=>by rw[uU]at hi;obtain⟨z,hzi,rfl⟩:=vN.mp hi;exact⟨z.1,z.2,rfl,by rw[<-ezU,uU,hzi];rfl,hza z (uF hzi)⟩
 refine⟨_,rfl,ls,rfl,⟨_,SqL.of (s35 _ _ hlsa)⟩,cX (K:=K) (a:=ls) (xs:=zs.map fun z=>V.ref z.1) (fun i σ H6=>∃(o6 o7 o8:Option V)(ow:Obj)(T:CT)(vf:List V)(Ws:List (List LO.Sd)),σ=[some (.ref a),some (.int (g:Nat)),some (.ref ls),some (.ref dk),some (.ref dw),some (.ref lf),o6,o7,o8]/\ao H3 H6/\cu P w K H6 dw ow T/\Kn T (fun s=>s∈Ws.flatten)/\H6 lf=some (.lst vf)/\Paired (FoE lf K H6) vf Ws/\LO.Rg G U i Ws) ⟨none,none,none,_,_,[],[],rfl,s35,cw5,lG.congr fun s=>by simp,k5,.nil,LO.rd⟩ (fun i σ H6 _ hPz=>hPz.elim fun _ hPz=>hPz.elim fun _ hPz=>hPz.elim fun _ hPz=>hPz.elim fun _ hPz=>hPz.elim fun _ hPz=>hPz.elim fun _ hPz=>hPz.elim fun _ hPz=>(fun z=>SqL.of (z _ _ hlsa)) (hPz.2.1)) ?_ ?_⟩
 ·rintro i v σ H6 hi ⟨o6,o7,o8,ow,T,vf,Ws,rfl,s6,c6,kn6,k6,pf6,rg⟩;refine dD ?_;intro kD2;obtain⟨b,sd,rfl,hUi,hb⟩:=hms i v hi;have hb6:=aS s6.tk hb;refine⟨_,rfl,_,rfl,dw,ow,T,b,_,rfl,c6,rfl,bK hb6,_,rfl,?_⟩;refine br (fun z=>?_) (fun z=>?_)
  ·replace z:(!(L2.atT T (aK sd)).isSome)=true:=z;have hnot:sd∉Ws.flatten:=fun y=>by
    rw[(kn6.at sd).mpr y]at z;cases z
   have bsd:LO.brd G sd=true:=(memU sd).mp (uF hUi);refine⟨_,rfl,_,rfl,dk,b,ok,mkT kvs,sd,G,rfl,bY s6 ck,hmk,hb6,bsd,fin,fun lw vw n H7 nw s7 hlw pW n0 en ndW=>?_⟩;obtain⟨lwk,rg2⟩:=rg.add memU okU soU hUi hnot n0 en ndW;have lW:(LO.wlk G sd n).length<=256:=fin _ ndW fun t ht=>lwk.is.brd t ht;generalize LO.wlk G sd n=W at pW ndW lwk rg2 lW;refine⟨_,rfl,.inl ⟨rfl,_,SqL.of (s7 _ _ k6)⟩,_,rfl,lw,vw,W,rfl,hlw,pW,lW,fun lr xr H8 nr s8 hlr pR=>?_⟩;have k8:=s8 _ _ (s7 _ _ k6);have nlr:lr≠lf:=fun z=>by rw[z,s7 _ _ k6]at nr;cases nr
   have nlw:lw≠lf:=fun z=>by rw[z,k6]at nw;cases nw
   have lvf:vf.length<sizeLine:=by rw[uL pf6];have:=rg2.len;have:=(ur.mp hUi).1;rw[uV]at*;exact bf (by simp at*;omega)
   refine⟨lf,_,_,rfl,rfl,k8,lvf,?_⟩;have tk9:=TK.lst (o:=.lst (vf++[.ref lr])) k8;have s9:ao H3 (upd H8 lf (.lst (vf++[.ref lr]))):=fun b5 o5 e5=>by rw[ax (fun z=>by rw[z,H3f]at e5;cases e5)];exact s8 _ _ (s7 _ _ (s6 _ _ e5))
   have lw9:(upd H8 lf (.lst (vf++[.ref lr]))) lw=some (.lst vw):=(by rw[ax nlw];exact s8 _ _ hlw);have pW9:Paired (aN K (upd H8 lf (.lst (vf++[.ref lr])))) vw W:=Paired.imp (fun _ _ z=>aN.tk tk9 (aN.tk s8.tk z)) pW;have c8:=bY s8 (bY s7 c6);have c9:cu P w K (upd H8 lf (.lst (vf++[.ref lr]))) dw ow T:=⟨by rw[ax (fun z=>by have:=c8.1;rw[z,k8]at this;cases this)];exact c8.1,c8.2.1,c8.2.2.1,fun t ht=>(c8.2.2.2 t ht).tk tk9⟩;have k9:(upd H8 lf (.lst (vf++[.ref lr]))) lf=some (.lst (vf++[.ref lr])):=af;have pf9:Paired (FoE lf K (upd H8 lf (.lst (vf++[.ref lr])))) (vf++[.ref lr]) (Ws++[W]):=Paired.app (Paired.imp (fun _ _ z=>((z.same s7).same s8).put k8) pf6) (.cons (FoE.put k8 ⟨lr,rfl,nlr,xr,hlr,pR⟩) .nil);generalize (upd H8 lf (.lst (vf++[.ref lr])))=H9 at s9 lw9 pW9 c9 k9 pf9 ⊢;have inU:∀s,s∈Ws.flatten\/s∈W->s∈U:=fun s hs=>(memU s).mpr (rg2.brd s (by rw[List.flatten_append,List.flatten_singleton,uB];exact hs));refine⟨_,rfl,lw,rfl,⟨_,SqL.of lw9⟩,cX (K:=K) (a:=lw) (xs:=vw) (fun j σ H7=>∃(o8:Option V)(ow:Obj)(T:CT),σ=[some (.ref a),some (.int (g:Nat)),some (.ref ls),some (.ref dk),some (.ref dw),some (.ref lf),some (.ref b),some (.ref lw),o8]/\ao H3 H7/\H7 lw=some (.lst vw)/\Paired (aN K H7) vw W/\cu P w K H7 dw ow T/\Kn T (fun s=>s∈Ws.flatten\/s∈W.take j)/\H7 lf=some (.lst (vf++[.ref lr]))/\Paired (FoE lf K H7) (vf++[.ref lr]) (Ws++[W])) ⟨o8,ow,T,rfl,s9,lw9,pW9,c9,kn6.congr fun s=>by simp,k9,pf9⟩ (fun j σ H7 _ hPz=>hPz.elim fun _ hPz=>hPz.elim fun _ hPz=>hPz.elim fun _ hPz=>(fun z=>SqL.of z) (hPz.2.2.1)) ?_ ?_⟩
   ·rintro j v σ Hj hj ⟨o8',ow',T',rfl,sj,lwj,pWj,cj,knj,kj,pfj⟩;refine dD ?_;intro kD3;obtain⟨td,htd,bt,rfl,hbt⟩:=bg pWj hj;have lT:T'.length<1000:=by
     have:=knj.len (U:=U) fun s hs=>inU s (hs.imp id fun z=>vj z);omega
    refine⟨_,rfl,_,rfl,dw,ow',T',bt,_,rfl,cj,rfl,bK hbt,lT,fun o' ho'=>?_⟩;have tk:=TK.obj (o:=cp dw o') cj.1;refine⟨_,o',_,rfl,fun b5 o5 e5=>?_,?_,Paired.imp (fun _ _ z=>aN.tk tk z) pWj,iR cj (bK hbt) ho',(lE knj td bt _).congr fun s=>?_,?_,Paired.imp (fun _ _ z=>FoE.obj cj.1 z) pfj⟩
    ·rw[ax (fun z=>by rw[z,hdw]at e5;cases e5)];exact sj _ _ e5
    ·rw[ax (fun z=>by rw[z,cj.1]at lwj;cases lwj)];exact lwj
    ·rw[uM,htd,uS,uB,ux,or_assoc]
    ·rw[ax (fun z=>by rw[z,cj.1]at kj;cases kj)];exact kj
   ·rintro σ Hj ⟨o8',ow',T',rfl,sj,lwj,pWj,cj,knj,kj,pfj⟩;rw[uL pWj,vl]at knj;exact⟨_,_,_,ow',T',_,_,rfl,sj,cj,knj.congr fun s=>by rw[List.flatten_append,List.flatten_singleton,uB],kj,pfj,rg2⟩
  ·replace z:¬(!(L2.atT T (aK sd)).isSome)=true:=z;have hin:sd∈Ws.flatten:=(kn6.at sd).mp (by cases y:(L2.atT T (aK sd)).isSome with|true=>rfl|false=>rw[y]at z;exact(z rfl).elim);exact⟨_,_,_,ow,T,vf,Ws,rfl,s6,c6,kn6,k6,pf6,rg.skip hUi hin⟩
 ·rintro σ H6 ⟨o6,o7,o8,ow,T,vf,Ws,rfl,s6,c6,kn6,k6,pf6,rg⟩;rw[uj,lz]at rg;have rs:=rg.rs memU;obtain⟨tz,rfl,e2,htz⟩:=rV pf6;have lF:Ws.flatten.length<=256:=fin _ rs.nd fun t ht=>(rs.all t).mp ht;have ltz:tz.length=Ws.length:=by rw[<-e2,uj]
  have mtz:∀z∈tz,z.2∈Ws:=fun z h=>e2▸vC h;have l256:Ws.length<=256:=vS rg.len lU;refine⟨_,rfl,lf,tz.map fun z=>(z.1,LO.g8 z.2),rfl,?_,?_,?_,?_,?_,fun l ys hl pm so=>?_⟩
  ·rw[vy];exact SqL.of k6
  ·intro z hz;obtain⟨y,hy,rfl⟩:=uO.mp hz;obtain⟨s,n,l⟩:=rs.wk y.2 (mtz y hy);obtain⟨R,eR⟩:=l.head;obtain⟨xs,h1,h2⟩:=htz y hy;rw[eR]at h2;cases h2 with
   |cons hp _=>obtain⟨p,rfl,hp⟩:=hp;refine⟨p,_,h1,?_⟩;show SqT K H6 p [.int (LO.g8 y.2).1,.int (LO.g8 y.2).2];rw[l.fst];exact hp
  ·intro z hz;obtain⟨y,hy,rfl⟩:=uO.mp hz;obtain⟨s,n,l⟩:=rs.wk y.2 (mtz y hy);obtain⟨a1,a2,_⟩:=okU s ((memU s).mpr l.b);show LT.ij (LO.g8 y.2);rw[l.fst];exact⟨a1,a2⟩
  ·rw[vy];have:=LO.Rg.unlike rs.wk rs.nd;rw[<-e2,vy]at this;exact this
  ·rw[uj];omega
  ·obtain⟨k,pk,rfl⟩:=LO.fJ pm rfl;rw[show(k.map fun z=>((z.1,LO.g8 z.2):Addr×(Int×Int))).map (fun z=>V.ref z.1)=k.map (fun z=>V.ref z.1)from vy];have u7:=ao.upd (o:=.lst (k.map fun z=>V.ref z.1)) hl;have pW:(k.map (·.2)).Perm Ws:=e2▸pk.map _;refine q l _ (k.map (·.2)) _ (sa.trans (s6.trans u7)) af ?_ (eG▸rs.perm pW) ?_ ?_ ?_
   ·exact nG fun z hz=>(htz z (pk.mem_iff.mp hz)).same u7
   ·rw[vy]at so ⊢;exact so
   ·rw[pW.flatten.length_eq];exact lF
   ·rw[pW.length_eq];exact l256
def nL(K:Frag):Sp:=fun vs H Q _=>∃(a:Addr)(ns:List Int),vs=[.ref a]/\SqL K H a (ns.map V.int)/\ns.length<=63/\∀H',Q (.bl true) H'
theorem bR:aE ["_law_script","_law_wide","_law_high","_law_ground_here","_law_due","_law_told","_law_starts","_law_found","_law_steps_here","_law_total","_law_ring","_law_handed","_law_area_here","_law_many"] ["_law_script"] (au (top 30)):=by trivial
include B cR dr dM gz bC cP bP dq bU dj bu dN bB in
theorem rC{f:Addr}{fd:FuncData}(F:Fun K "law" "law" (top 30) f fd):jF P w K mg base CX0 5 f fd ["_law_script"] (nL K):=by
 refine F.ok bR (by rintro _ _ _ _ ⟨a,ns,rfl,hS,hlen,q⟩;rfl) ?_;rintro _ A _ s H _ Q E hr ⟨a,ns,rfl,hS,hlen,q⟩;have hu:=hr.units;refine aZ ?_;intro kX;refine ah 13 (ai (aD (e7 (aY (kY hu) (pv 7) (aM (LT.h8 hu) (by rfl) B.sorted (by trivial) (aa (pv 7) ae)) (aF _)) (e7 (aY (kY hu) (aM (LT.fg hu) (by rfl) B.sorted (by trivial) (aa (pv 8) ae)) (pv 4) (aF _)) (eZ (aY cq (pv 9) (aj cf ab (pv 13)) (aF _))))))) ?_;intro kR13 pR13;refine ah 12 (ag (aq (i:=13) bR.nd rfl (by trivial) (aM a7 (by rfl) B.len PySem.boot_len (aa (dC ["_law_k"] [("_law_ground_here",3)] (gr _ ["_law_ground_here"]) rfl (by rfl) rfl (by trivial) (by trivial) (bI (by rfl)) (ff (by rfl)) (mC ⟨rfl,rfl⟩ mN) (mC rfl mN) (eg (by decide)) (bN (by rfl) B.range (aa (aj cf (pv 1) (pv 2)) ae)) (fun _ _ _ _=>aR (i:=0) (show(["_law_k","_law_ground_here"]:List Str).Nodup by trivial) rfl (Or.inl rfl) (Or.inr rfl)) (fun _ _ _ _=>fG (bj (aJ bB hr (aa (pv 1) (aa (pv 0) ae))))) (fun _ _ _ _=>(pv 0))) ae))) pR13) ?_;intro kR12 pR12;refine aC 11 5 (ai (aq (i:=9) bR.nd rfl (by trivial) (aj aO (pv 9) (pv 12)))) ?_;intro kS11x5 pS11x5;refine aC 11 4 (ag (aq (i:=8) bR.nd rfl (by trivial) (aj rB (pv 8) (aJ dq hr (aa (pv 10) ae)))) pS11x5) ?_;intro kS11x4 pS11x4;refine aC 11 3 (ag (bh ((d0 (bD (bj (aJ bu hr (aa (pv 12) ae)))) (d0 (aU mh (pv 12) (aJ dN hr (aa (pv 10) ae)) (aF _)) (dZ (aU (gP hu) (pv 11) (pv 10) (aF _))))).pt) (ai (aD cI)) aL) pS11x4) ?_;intro kS11x3 pS11x3;refine aC 11 2 (ag (aq (i:=12) bR.nd rfl (by trivial) (aJ cP hr (aa (pv 11) ae))) pS11x3) ?_;intro kS11x2 pS11x2;refine aC 11 1 (ag (aq (i:=11) bR.nd rfl (by trivial) (cT jA (by rfl) B.list boot_list (aa (pv 10) ae))) pS11x2) ?_;intro kS11x1 pS11x1;refine aC 11 0 (ag (bh ((d0 (bD (bj (aJ bU hr (aa (pv 10) (aa (pv 1) (aa (pv 2) ae)))))) (dZ (bD (bj (aJ dj hr (aa (pv 10) (aa (pv 6) ae))))))).pt) (ai (aD cI)) aL) pS11x1) ?_;intro kS11x0 pS11x0;refine ah 11 (ag (cc vk rfl (cN (pv 7)) (aR (i:=10) bR.nd rfl (by trivial)) pS11x0) pR12) ?_;intro kR11 pR11;refine ah 10 (ag (aq (i:=9) bR.nd rfl (by trivial) ab) pR11) ?_;intro kR10 pR10;refine ah 9 (ag (aq (i:=8) bR.nd rfl (by trivial) (d8 ae)) pR10) ?_;intro kR9 pR9;refine ah 8 (ag (bh (bD (bj (aM ed (by rfl) B.isinstance boot_isinstance (aa (pv 7) (aa (dH (x:="list") (v:=.ty "list") (by rfl) B.list boot_list rfl) ae))))) (ai (aD cI)) aL) pR9) ?_;intro kR8 pR8;refine ah 7 (ag (aq (i:=7) bR.nd rfl (by trivial) (aJ gz hr (aa (aH (aa (pv 1) (aa (pv 2) ae))) (aa (pv 3) ae)))) pR8) ?_;intro kR7 pR7;refine ah 6 (ag (pO (i:=6) bR.nd rfl (by trivial) ["_law_side"] [] (gr _ []) rfl (by rfl) rfl (by trivial) (by trivial) (bI (by rfl)) (ff (by rfl)) mN mN (eg (by decide)) (cN (pv 4)) (fun _ _ _ _=>aR (i:=0) (show(["_law_side"]:List Str).Nodup by trivial) rfl (Or.inl rfl) (Or.inr rfl)) (fun _ _ _ _=>gO) (fun _ _ _ _=>(av (gy (K:=K) rfl) (pv 0) ab (fun _ _=>rfl)))) pR7) ?_;intro kR6 pR6;refine ah 5 (ag (bh ((d0 (bD (bj (aJ bP hr (aa (pv 5) (aa (pv 1) (aa (pv 2) ae)))))) (dZ (aU (gP hu) (pv 5) (pv 4) (aF _)))).pt) (ai (aD cI)) aL) pR6) ?_;intro kR5 pR5;refine ah 4 (ag (aq (i:=5) bR.nd rfl (by trivial) (aJ dM hr (aa (aH (aa (pv 1) (aa (pv 2) ae))) (aa (pv 3) ae)))) pR5) ?_;intro kR4 pR4;refine ah 3 (ag (aq (i:=4) bR.nd rfl (by trivial) (aJ dr hr (aa (pv 1) (aa (pv 2) (aa (pv 3) ae))))) pR4) ?_;intro kR3 pR3;refine ah 2 (ag (aq (i:=3) bR.nd rfl (by trivial) (aJ cR hr (aa (aJ bC hr (aa (pv 0) (aa ab ae))) (aa (pv 1) (aa (pv 2) ae))))) pR3) ?_;intro kR2 pR2;refine ah 1 (ag (aq (i:=2) bR.nd rfl (by trivial) (aj aO ab (aj bp (aj bT (aJ bC hr (aa (pv 0) (aa ab ae))) ab) ab))) pR2) ?_;intro kR1 pR1;refine⟨_,(ag (aq (i:=1) bR.nd rfl (by trivial) (aj aO ab (aj bp (aJ bC hr (aa (pv 0) (aa ab ae))) ab))) pR1),?_⟩;obtain⟨w,ew,hw,hw8⟩:=qL (ns.getD 0 0);obtain⟨h,eh,hh,hh8⟩:=qL (ns.getD 0 0 / 8);have hwh:w*h<=64:=Nat.mul_le_mul hw8 hh8;have hwp:0<w*h:=Nat.mul_pos hw hh;have e1:((w:Int)*(h:Int))=((w*h:Nat):Int):=by simp
 refine⟨_,rfl,a,ns,0,rfl,hS,_,_,rfl,rfl,(by show(0:Int)<_;decide),_,_,rfl,rfl,?_⟩;simp only[ew];refine⟨_,rfl,a,ns,0,rfl,hS,_,_,rfl,rfl,⟨by decide,by decide⟩,_,_,rfl,rfl,(by show(0:Int)<_;decide),_,_,rfl,rfl,?_⟩;simp only[eh];refine⟨_,rfl,a,ns,1,rfl,hS,_,rfl,_,rfl,_,w,h,rfl,⟨hw,hw8,hh,hh8⟩,fun g H1 hg s1=>?_⟩;refine⟨_,rfl,_,rfl,_,rfl,w,h,g,rfl,⟨hw,hw8⟩,⟨hh,hh8⟩,fun ld vd U H2 s2 hld pU ndU memU soU lU=>?_⟩;refine⟨_,rfl,_,rfl,aB rfl,fun t1 ht1=>?_⟩;have u3:=ao.upd (o:=.tup [.int (w:Nat),.int (h:Nat)]) ht1;have z3:SqT K (upd H2 t1 (.tup [.int (w:Nat),.int (h:Nat)])) t1 [.int (w:Nat),.int (h:Nat)]:=SqT.of af;generalize (upd H2 t1 (.tup [.int (w:Nat),.int (h:Nat)]))=H3 at u3 z3 ⊢;refine⟨_,rfl,t1,w,h,g,rfl,z3,⟨hw,hw8⟩,⟨hh,hh8⟩,hg,fun lt vt U' H4 s4 hlt pU' ndU' memU' soU' lU'=>?_⟩;have okU:∀s∈U,LT.fE s:=fun s hs=>LO.f7 hw8 hh8 (LO.ba.mp ((memU s).mp hs)).1;have eU:U=U':=LO.gE ndU ndU' (fun s=>(memU s).trans (memU' s).symm) okU soU soU';subst eU;have s24:=u3.trans s4;replace hld:=s24 _ _ hld;replace pU:=Paired.imp (fun _ _ z=>aN.tk s24.tk z) pU;refine⟨_,rfl,_,rfl,_,rfl,lt,vt,U,w,h,rfl,hlt,pU',fun s hs=>LO.oS (LO.ba.mp ((memU s).mp hs)).1,_,rfl,dP ?_⟩;refine⟨_,rfl,_,rfl,_,_,.lst (SqL.of hlt) (fC pU'),.lst (SqL.of hld) (fC pU),dB U,dB U,jP U,_,rfl,?_⟩;refine br (fun z=>absurd z (by show ¬(!PyData.eqv (mP U) (mP U))=true;rw[SeqAt.eqv_refl _ (dB U)];exact uz)) (fun _=>?_);clear hlt pU' ndU' memU' soU' lU' s24 s4 u3 z3 s2 s1;refine⟨_,rfl,ld,rfl,⟨_,SqL.of hld⟩,fun D hD=>?_⟩;refine qP (K:=K) (a:=ld) (xs:=vd) (fun i acc H6=>ao H4 H6/\H6 D=some (.lst acc)/\Paired (PtE K H6) acc ((U.take i).map LO.Sd.st)) ⟨ao.upd hD,af,.nil⟩ (fun i acc H6 _ z=>SqL.of (z.1 _ _ hld)) ?_ ?_
 ·rintro i v acc H6 hi ⟨s6,h6,pr⟩;refine iO ?_;intro kq1 kr1;obtain⟨s,hs,b,rfl,p,r,h1,h2,h3⟩:=bg pU hi;have lacc:acc.length<sizeLine:=by
   rw[uL pr,uj,uG];exact bf (by omega)
  have tk2:=TK.lst (o:=.lst (acc++[.ref p])) h6;refine⟨_,rfl,b,_,_,_,rfl,rfl,s6.tup h1,ak (j:=0) rfl,h6,lacc,fun b5 o5 e5=>?_,af,?_⟩
  ·rw[ax (fun z=>by rw[z,hD]at e5;cases e5)];exact s6 _ _ e5
  ·rw[uM,hs,uS,List.map_append];exact Paired.app (Paired.imp (fun _ _ z=>z.tk tk2) pr) (.cons (PtE.tk tk2 ⟨p,rfl,s6.tup h2⟩) .nil)
 rintro stv H6 ⟨s6,hst,pS⟩;rw[uL pU,vl]at pS;replace hld:=s6 _ _ hld;replace pU:=Paired.imp (fun _ _ z=>aN.tk s6.tk z) pU;clear s6;refine⟨_,rfl,_,rfl,aB rfl,fun t2 ht2=>?_⟩;have u7:=ao.upd (o:=.tup [.int (w:Nat),.int (h:Nat)]) ht2;have z7:SqT K (upd H6 t2 (.tup [.int (w:Nat),.int (h:Nat)])) t2 [.int (w:Nat),.int (h:Nat)]:=SqT.of af;generalize (upd H6 t2 (.tup [.int (w:Nat),.int (h:Nat)]))=H7 at u7 z7 ⊢;refine⟨_,rfl,t2,w,h,g,rfl,z7,⟨hw,hw8⟩,⟨hh,hh8⟩,hg,fun lf vf Ws H8 s8 hlf pf rs so lF lW=>?_⟩;have s78:=u7.trans s8;replace hld:=s78 _ _ hld;replace pU:=Paired.imp (fun _ _ z=>aN.tk s78.tk z) pU;have pts:dQ K H8 D (U.map LO.Sd.st):=⟨stv,s78 _ _ hst,Paired.imp (fun _ _ z=>PtE.tk s78.tk z) pS⟩;clear u7 z7 s8 s78 hst pS;refine⟨_,rfl,_,_,_,_,rfl,c0.lst hlf,lH K,_,rfl,dP ?_⟩;refine⟨aB rfl,fun l0 hl0=>?_⟩;have u9:=ao.upd (o:=.lst []) hl0;have k9:(upd H8 l0 (.lst [])) l0=some (.lst []):=af;replace hld:=u9 _ _ hld;replace hlf:=u9 _ _ hlf;replace pU:=Paired.imp (fun _ _ z=>aN.tk u9.tk z) pU;replace pts:=pts.same u9;replace pf:=Paired.imp (fun _ _ z=>iu.same u9 z) pf;generalize (upd H8 l0 (.lst []))=H9 at hld hlf pU pts pf k9 ⊢;clear u9;have cnt:∀p,(∀s t,LO.brd (LO.grd w h g) s=true->LO.brd (LO.grd w h g) t=true->s.st=p->t.st=p->s=t)->((U.map LO.Sd.st).countP fun q=>decide (q=p))<=1:=fun p hp=>LO.kB ndU fun s hs t ht=>hp s t ((memU s).mp hs) ((memU t).mp ht);refine⟨_,rfl,lf,rfl,⟨_,SqL.of hlf⟩,cX (K:=K) (a:=lf) (xs:=vf) (fun i σ HH=>∃(o10 o11 o12:Option V)(ls:Addr)(ys:List V)(V2:List LO.Sd)(tot:Int),σ=[some (.ref a),some (.int (w:Nat)),some (.int (h:Nat)),some (.int (g:Nat)),some (.ref ld),some (.ref lt),some (.ref D),some (.ref lf),some (.ref ls),some (.int tot),o10,o11,o12,none]/\ao H9 HH/\HH ls=some (.lst ys)/\Paired (aN K HH) ys V2/\V2.Perm (Ws.take i).flatten/\tot=(((Ws.take i).map LO.aI).map LO.gn).sum) ⟨none,none,none,l0,[],[],0,rfl,ao.refl _,k9,.nil,.refl _,rfl⟩ (fun i σ HH _ hPz=>hPz.elim fun _ hPz=>hPz.elim fun _ hPz=>hPz.elim fun _ hPz=>hPz.elim fun _ hPz=>hPz.elim fun _ hPz=>hPz.elim fun _ hPz=>hPz.elim fun _ hPz=>(fun z=>SqL.of (z _ _ hlf)) (hPz.2.1)) ?_ ?_⟩
 ·rintro i v σ HH hi ⟨o10,o11,o12,ls,ys,V2,tot,rfl,sH,kls,pV,perm,etot⟩;refine dD ?_;intro kD2;obtain⟨R,hR,b,rfl,hb⟩:=bg pf hi;rw[uU]at hR;obtain⟨W,hW,rfl⟩:=vN.mp hR;have mW:=uF hW;obtain⟨s,n,lw⟩:=rs.wk W mW;obtain⟨rn,rr⟩:=lw.runs;obtain⟨R',eR'⟩:=lw.head;have lenW:W.length<=256:=by
   have e2:=LM.length_le_of_subset (l2:=Ws.flatten) lw.nd fun x hx=>List.mem_flatten.mpr ⟨W,mW,hx⟩;omega
  have lenR:(LO.aI W).length<=256:=by have e1:=jx (LO.d9 W) W;show(LO.cor (LO.d9 W) W).length<=256;omega
  have pb:∀p∈LO.aI W,(0<=p.1/\p.1<=w)/\(0<=p.2/\p.2<=h):=fun p hp=>by obtain⟨sd,hsd,rfl⟩:=LO.jw hp;obtain⟨a1,a2,_⟩:=LO.oS (LO.ba.mp (lw.is.brd sd hsd)).1;exact⟨a1,a2⟩
  have pb20:∀p∈LO.aI W,-20<=p.1/\p.1<=20/\ -20<=p.2/\p.2<=20:=fun p hp=>by obtain⟨a1,a2⟩:=pb p hp;omega
  have four:4<=(LO.aI W).length:=by rw[rr.ring,uj];exact rr.four
  refine⟨_,rfl,_,rfl,_,rfl,b,LO.aI W,R',s.st,w,h,rfl,hb.same sH,four,lenR,pb,rr.farR,eR',lw.leastR,_,rfl,dP ?_⟩;refine⟨_,rfl,_,rfl,b,D,LO.aI W,U.map LO.Sd.st,rfl,hb.same sH,pts.same sH,lenR,?_,fun H10 s10=>⟨_,rfl,dP ?_⟩⟩
  ·rw[rr.ring];exact rr.turn cnt
  have t10:=s10;replace s10:=sH.trans s10;obtain⟨xr,hxr,pxr⟩:dQ K H10 b (LO.aI W):=hb.same s10;refine⟨_,rfl,b,xr,rfl,.inl (SqL.of hxr),fun lh hlh=>?_⟩;have u11:=ao.upd (o:=.lst xr) hlh;have k11:(upd H10 lh (.lst xr)) lh=some (.lst xr):=af;have s11:=s10.trans u11;have t11:=t10.trans u11;have ph:dQ K (upd H10 lh (.lst xr)) lh (LO.aI W):=⟨xr,k11,Paired.imp (fun _ _ z=>PtE.tk u11.tk z) pxr⟩;generalize (upd H10 lh (.lst xr))=H11 at k11 s11 t11 ph ⊢;clear u11 s10 hxr pxr;refine⟨_,rfl,lh,LO.aI W,rfl,ph,pb20,fun H12 s12=>?_⟩;replace ph:=ph.same s12;replace s11:=s11.trans s12;replace t11:=t11.trans s12;refine⟨_,rfl,_,"int",rfl,c0.int _,_,rfl,dP ?_⟩;refine⟨_,rfl,_,rfl,b,LO.aI W,rfl,hb.same s11,pb20,lenR,rfl,_,rfl,?_⟩;refine br (fun z=>absurd z (by simp)) (fun _=>?_);refine⟨_,rfl,_,rfl,_,_,ph.isD,(hb.same s11).isD,d7 _,d7 _,vS (jV _) (by decide),_,rfl,?_⟩;refine br (fun z=>absurd z (by rw[SeqAt.eqv_refl _ (d7 _)];exact uz)) (fun _=>?_);refine⟨_,rfl,_,rfl,b,LO.aI W,LO.grd w h g,W,rn,rfl,hb.same s11,rr,rr.ring,lenW,fun l2 v2 H13 _ s13 hl2 p2=>?_⟩;have t13:=t11.trans s13;have lV:V2.length<=256:=by
   rw[perm.length_eq]
   have e2:=LM.length_le_of_subset (l1:=(Ws.take i).flatten) (l2:=Ws.flatten) (by
    have:=rs.nd;rw[<-u0 i Ws,List.flatten_append]at this
    exact(v9.mp this).1) fun x hx=>by obtain⟨Y,hY,hx⟩:=List.mem_flatten.mp hx;exact List.mem_flatten.mpr ⟨Y,vj hY,hx⟩
   omega
  have pmW:((LO.rot rn).flatMap LO.Run.sds).Perm W:=by have:=(LO.gI rr.ne).flatMap_right LO.Run.sds;rw[rr.flat]at this;exact this
  refine⟨ls,l2,ys,v2,rfl,rfl,t13 _ _ kls,hl2,?_,fun l3 hl3=>?_⟩
  ·have a1:=uL pV;have a2:=uL p2;rw[pmW.length_eq]at a2;exact Nat.le_of_lt (bf (by omega))
  have u14:=ao.upd (o:=.lst (ys++v2)) hl3;have t14:=t13.trans u14;refine⟨_,rfl,_,rfl,_,_,rfl,rfl,?_⟩;refine⟨_,_,_,l3,ys++v2,V2++(LO.rot rn).flatMap LO.Run.sds,_,rfl,sH.trans t14,af,Paired.app (Paired.imp (fun _ _ z=>aN.tk t14.tk z) pV) (Paired.imp (fun _ _ z=>aN.tk u14.tk z) p2),?_,?_⟩
  ·rw[uM,hW,uS,List.flatten_append,List.flatten_singleton];exact perm.append pmW
  ·rw[uM,hW,uS,List.map_append,List.map_append,List.sum_append,<-etot];show tot+LO.gn (LO.aI W)=tot+(LO.gn (LO.aI W)+0);omega
 ·rintro σ HH ⟨o10,o11,o12,ls,ys,V2,tot,rfl,sH,kls,pV,perm,etot⟩;have lv:vf.length=Ws.length:=(uL pf).trans (uj ..);rw[lv,vl]at perm etot;rw[rs.area hw]at etot;refine⟨_,rfl,_,rfl,_,_,rfl,rfl,.inl ⟨by omega,by omega⟩,_,rfl,by omega,by omega,fun D2 hD2=>?_⟩;rw[show(((w:Nat):Int)*((h:Nat):Int)).toNat=w*h by rw[e1];rfl];refine qO (n:=w*h) (lo:=0) (fun i acc H2=>ao HH H2/\H2 D2=some (.lst acc)/\acc.length=((List.range i).filter g.testBit).length) ⟨ao.upd hD2,af,rfl⟩ ?_ ?_
  ·rintro i acc H2 hi ⟨s2,h2,le⟩;rw[show(0:Int)+(i:Int)=((i:Nat):Int) by omega];refine iO ?_;intro kq3 kr3;refine⟨_,rfl,_,rfl,g,i,rfl,by omega,_,rfl,?_⟩;have hf:(List.range (i+1)).filter g.testBit=(List.range i).filter g.testBit++[i].filter g.testBit:=(by rw[List.range_succ,vK]);refine br (fun z=>?_) (fun z=>?_)
   ·have lacc:acc.length<sizeLine:=by
     have:=(List.filter_sublist (p:=g.testBit) (l:=List.range i)).length_le;rw[vG]at this;exact bf (by omega)
    refine⟨_,rfl,h2,lacc,fun b5 o5 e5=>?_,af,?_⟩
    ·rw[ax (fun z=>by rw[z,hD2]at e5;cases e5)];exact s2 _ _ e5
    ·rw[hf,List.filter_cons_of_pos z,wc,uV,uV,le];rfl
   ·refine⟨s2,h2,?_⟩;rw[hf,List.filter_cons_of_neg z,wc,vn];exact le
  rintro acc H2 ⟨s2,h2,le⟩;refine⟨D2,acc,rfl,.inl (SqL.of h2),?_⟩;have lm:acc.length<=64:=by have:=(List.filter_sublist (p:=g.testBit) (l:=List.range (w*h))).length_le;rw[vG]at this;omega
  have kls2:=s2 _ _ kls;have pV2:=Paired.imp (fun _ _ z=>aN.tk s2.tk z) pV;replace s2:=sH.trans s2;replace hld:=s2 _ _ hld;replace pU:=Paired.imp (fun _ _ z=>aN.tk s2.tk z) pU;replace hlf:=s2 _ _ hlf;replace pf:=Paired.imp (fun _ _ z=>iu.same s2 z) pf;obtain⟨zs,ez,ez2,hz⟩:=nP pf rs.wk;have okz:∀z∈zs,LT.ij z.2:=fun z mz=>by have:z.2∈zs.map (·.2):=vC mz;rw[ez2]at this;obtain⟨W,hW,e⟩:=uO.mp this;obtain⟨s,n,lw⟩:=rs.wk W hW;rw[<-e,lw.fst];obtain⟨a1,a2,_⟩:=LO.f7 hw8 hh8 (LO.ba.mp lw.b).1;exact⟨a1,a2⟩
  have ndz:(zs.map (·.2)).Nodup:=by rw[ez2];exact LO.Rg.unlike rs.wk rs.nd
  have soz:(zs.map fun z=>LT.ptN z.2).Pairwise (·<=·):=by have:(zs.map fun z=>LT.ptN z.2)=(zs.map (·.2)).map LT.ptN:=(by rw[vy];rfl);rw[this,ez2,vy];exact so
  have lzs:zs.length<1000:=by have:=congrArg List.length ez2;rw[uj,uj]at this;omega
  refine⟨_,rfl,_,rfl,lf,zs,rfl,by rw[<-ez];exact SqL.of hlf,hz,okz,ndz,lzs,fun l4 ys4 hl4 pm4 so4=>?_⟩;obtain rfl:=nY pm4 okz ndz so4 soz;have u4:=ao.upd (o:=.lst (ys4.map fun z=>V.ref z.1)) hl4;have k4:(upd H2 l4 (.lst (ys4.map fun z=>V.ref z.1))) l4=some (.lst vf):=by rw[ez];exact af
  generalize (upd H2 l4 (.lst (ys4.map fun z=>V.ref z.1)))=H5 at u4 k4 ⊢;have pf5:=Paired.imp (fun _ _ z=>iu.same u4 z) pf;refine⟨_,_,.lst (SqL.of (u4 _ _ hlf)) (iF pf5),.lst (SqL.of k4) (iF pf5),fR _,fR _,mU _,_,rfl,?_⟩;rw[SeqAt.eqv_refl _ (fR _)];refine qp ?_;obtain⟨ws,ew1,ew2,hws⟩:=gu (Paired.imp (fun _ _ z=>aN.tk u4.tk z) pV2);have mws:∀z∈ws,LO.brd (LO.grd w h g) z.2=true:=fun z mz=>by have:z.2∈ws.map (·.2):=vC mz;rw[ew2]at this;exact(rs.all z.2).mp (perm.mem_iff.mp this)
  have lws:ws.length<=256:=by have:=congrArg List.length ew2;rw[uj,perm.length_eq]at this;omega
  refine⟨_,rfl,ls,ws,rfl,by rw[<-ew1];exact SqL.of (u4 _ _ kls2),hws,fun z mz=>LO.f7 hw8 hh8 (LO.ba.mp (mws z mz)).1,by omega,fun l6 ys6 hl6 pm6 so6=>?_⟩;have u6:=ao.upd (o:=.lst (ys6.map fun z=>V.ref z.1)) hl6;have pm7:(ys6.map (·.2)).Perm Ws.flatten:=(pm6.map _).trans (ew2▸perm)
  have e6:U=ys6.map (·.2):=LO.gE ndU (pm7.nodup_iff.mpr rs.nd) (fun s=>(memU s).trans ((rs.all s).symm.trans pm7.mem_iff.symm)) okU soU (by
   rw[List.pairwise_map]at so6 ⊢
   exact so6)
  have p6:Paired (aN K (upd H5 l6 (.lst (ys6.map fun z=>V.ref z.1)))) (ys6.map fun z=>V.ref z.1) U:=by rw[e6];exact gs fun z hz'=>aS u6.tk (hws z (pm6.mem_iff.mp hz'))
  have k6:(upd H5 l6 (.lst (ys6.map fun z=>V.ref z.1))) l6=some (.lst (ys6.map fun z=>V.ref z.1)):=af;generalize (upd H5 l6 (.lst (ys6.map fun z=>V.ref z.1)))=H7 at u6 p6 k6 ⊢;have s57:=u4.trans u6;refine⟨_,rfl,_,_,.lst (SqL.of k6) (fC p6),.lst (SqL.of (s57 _ _ hld)) (fC (Paired.imp (fun _ _ z=>aN.tk s57.tk z) pU)),dB U,dB U,jP U,_,rfl,?_⟩;have eqU:PyData.eqv (mP U) (mP U)=true:=SeqAt.eqv_refl _ (dB U);refine br (fun _=>?_) (fun z=>absurd eqU z);refine⟨_,rfl,_,rfl,_,_,rfl,rfl,.inl ⟨by omega,by omega⟩,rfl,?_⟩;have et:decide (V.int tot=V.int (2*((acc.length:Nat):Int)))=true:=by rw[etot,le];exact uD rfl
  show Q (.bl (decide (V.int tot=V.int (2*((acc.length:Nat):Int))))) _;rw[et];exact q _
end
end My
structure PySem.W.Fast:Prop where (tw8790696294461950782 tw5067196948185509407 tw3536671641183072162 tw13561798641995958605 tw7210984553701650086 tw7610505449711081249 tw12498121817066291912 tw10478173310696991065 tw8445269094128782197 tw6798553629299063063 tw14603699744076949610 tw8715033311438234387 tw850463005107318078 tw8963631797869899910 tw12420050606083317116 tw5170540731873342908 tw10636685470061243412 tw16178651510398065093 tw5977232113280800035 tw4996088534873207323 tw16280951259999219433 tw6441841524199367904 tw3504750700966996564 tw17960964350407467890 tw5016796343595526689 tw8128305129121450826 tw11418305806547711086 tw5109038738734834621 tw13117130832746373809 tw16761370883049330524 tw6435651172249620726 tw8475334552669269790 tw16784122261490540898 tw11687437636133877485 tw6565690055930246541 tw12233169462280372785 tw7522070363047382795 tw1795037489035335259 tw5510944056401789215 tw11052083342099213323 tw1656866420743501925 tw15599195475221290645 tw15912134335660875793 tw4408798788748994588 tw18026140904517442865 tw2262608868196206720 tw12046447923118565670 tw5460084410106814391 tw7374716684651664457 tw17671256964067093714 tw11441837431692551179 tw5611752147234831305 tw6348275888840730434 tw15434971828429890733 tw6533764912919790331 tw14451134980440511999 tw14827325045215999162 tw6692541298596012764 tw2158954112049971428 tw2830752635250371199 tw11593260438679925361 tw5982560573990410025 tw13196438432381504626 tw16705289036276940538 tw6114657935007793425 tw225074355696569270 tw735682399573124180 tw885746627212446096 tw5813194929385413364 tw10306348726781342356 tw5559520497740388820 tw9734522356164264950 tw6412583805321126429 tw9947672088434014161 tw2003130746587128316 tw796704225415685877 tw15993645235724620613 tw427794305222327905 tw9561485648997780295 tw5554550130768033819 tw13172600485253111223 tw14639510528314856552 tw840562023886151528 tw17782976871768316833 tw5846582365646721377 tw5670279704677963219 tw16025692454906838542 tw14018932767564849997 tw16713299657091945900 tw7419325669864526008 tw15503491400954954224 tw1393292113045065500 tw18044116264519241785 tw7369240764039111066 tw12025134978912107591 tw1404448845338476203 tw15142247555301755794 tw9156720424783981373 tw12783079418302370362 tw13965966297415082706 tw16542203489696241298 tw10947837439414047759 tw12348316307305757207 tw7228094425370177343 tw15542505230942444239 tw5776145932563706433 tw7099795822011942713 tw12787243429150732030 tw1849803975170422846 tw8603979789800233190 tw3205449185048570711 tw11866560538279179598 tw11301557557266804015 tw13071317912742639548 tw12417838363635728642 tw2543088281859824041 tw16896796096523614469 tw12264776231081020677 tw985959607255107154 tw1257668029176535605 tw2319719025603572773 tw5322057004983262922 tw18178284942467055864 tw4625307590208426969 tw1242840043866795210 tw11439713307113775420 tw7869145681553873162 tw160536257979952024 tw16209160706468566336 tw13463061873314303739 tw14575675006642515055 tw6244377654276785059 tw15638966849179217158 tw3360024943142554516 tw16961205040218433998 tw17666308710475032454 tw11394219839906915106 tw15746976023670911722 tw11209473920718528520 tw5028620077543074927 tw13728393919802472652 tw16701271955992078910 tw9817628985044276276 tw10717084812324380784 tw4530780371641216283 tw17838035093277377542 tw1099464333120560519 tw11819111181865801908 tw2694853951457398448 tw2906259767992871743 tw1039842545553663200 tw12180151841798862658 tw2816592407769800745 tw1777585760836267423 tw5310181932597211911 tw18160099262895735375 tw13003782279272977229 tw1862104447004681718 tw16406297965100638777 tw5826229263242626707 tw1679369070481506063 tw4884591180859022567 tw8552258960722733888 tw6584232251771275339 tw1137595347092499266 tw5436277863326385803 tw3683617649826645191 tw567114844514288995 tw3281867976224737111 tw659264226415302961 tw8137061079189909658 tw2294338803043134058 tw10640199342490869200 tw2732170941962974958 tw6052170793168163771 tw16046364936087248367:True)
open PySem PySem.W PyProof.Rows
local macro_rules
 | `(tactic|trivial)=> `(tactic|(dsimp only[L2.KOf];refine' L2.sf (by assumption) (by assumption) ?a ?l ?c ?k (fun _ _ _ _ _ _=>by first|exact L2.tm fun _=>rfl|exact L2.tj fun _ _=>rfl|exact L2.ti fun _ _ _=>rfl|exact L2.th fun _ _ _ _=>rfl|exact L2.tf fun _ _ _ _ _=>rfl|exact L2.sZ fun _ _ _ _ _ _=>rfl|exact L2.t7 fun _ _ _ _ _ _ _=>rfl);(case a=>k_is);(case l=>k_is);(case c=>k_is);(case k=>k_is)))
set_option maxRecDepth 100000 in
set_option maxHeartbeats 0 in
theorem PySem.Challenge.cw_landroll_k17_sides_and_rings_holds : PySem.Challenge.rw_landroll_k17_sides_and_rings.Holds := by
 w_on;o_law;k_head;(case hw=>w_witness2)
 k_fill
 refine L2.nF (l:=PySem.Challenge.rw_landroll_k17_sides_and_rings) (n:=63) (k:=5) (x:="_law_script") (CX:=L2.CX0) (sp:=My.nL) rfl (by decide) rfl ⟨rfl,by decide,by decide⟩ (fun w h Y=>PySem.W.kIn_of Y) ?F ?S ?C
 case F=>
  intro w mg fa h KX G hmg;have B:L2.Bn mg:=by
   refine' L2.tI KX G ?z0 ?z1 ?z2 ?z3 ?z4 ?z5 ?z6 ?z7 ?z8 ?z9 ?z10 ?z11 ?z12 ?z13
   (case z0=>k_is);(case z1=>k_is);(case z2=>k_is);(case z3=>k_is);(case z4=>k_is);(case z5=>k_is);(case z6=>k_is);(case z7=>k_is);(case z8=>k_is);(case z9=>k_is);(case z10=>k_is);(case z11=>k_is);(case z12=>k_is);(case z13=>k_is)
  have sh:L2.Tx (L2.KOf KX) mg "law" (My.top 30) ["_law_script"]:=by trivial
  obtain⟨f,fd,F,b,hm⟩:=sh.ex;have e0:=hmg.symm.trans hm;cases e0;obtain⟨oc,od,kV,doc,pm,an,cdv,ct,osl,rfl,lk,hcd⟩:=id F.ex;refine⟨fnOf "law" "law" (L2.dJ (My.top 30)) (L2.cO (My.top 30)) (L2.au (My.top 30)) .none kV doc pm an cdv ct,fun s u=>.of_eq rfl,fun base kb nb=>?_⟩;have mF:=My.rD (P:=My.Pg) (w:=w) (base:=base) (K:=L2.KOf KX) B (by trivial);have dv:=My.jk (P:=My.Pg) (w:=w) (base:=base) (K:=L2.KOf KX) B (by trivial);have fN:=My.m5 (P:=My.Pg) (w:=w) (base:=base) (K:=L2.KOf KX) B (by trivial);have bO:=My.kZ (P:=My.Pg) (w:=w) (base:=base) (K:=L2.KOf KX) B (by trivial);have cP:=My.il (P:=My.Pg) (w:=w) (base:=base) (K:=L2.KOf KX) B (by trivial);have bC:=My.gU (P:=My.Pg) (w:=w) (base:=base) (K:=L2.KOf KX) B (by trivial);have bu:=My.jd (P:=My.Pg) (w:=w) (base:=base) (K:=L2.KOf KX) B (by trivial);have cB:=My.j5 (P:=My.Pg) (w:=w) (base:=base) (K:=L2.KOf KX) B (by trivial);have du:=My.jh (P:=My.Pg) (w:=w) (base:=base) (K:=L2.KOf KX) B (by trivial);have bB:=My.lg (P:=My.Pg) (w:=w) (base:=base) (K:=L2.KOf KX) B (by trivial);have dN:=My.j6 (P:=My.Pg) (w:=w) (base:=base) (K:=L2.KOf KX) B (by trivial);have a9:=My.gT (P:=My.Pg) (w:=w) (base:=base) (K:=L2.KOf KX) B (by trivial);have fO:=My.m7 B mF (by trivial);have cE:=My.gR B dv fN (by trivial);have bS:=My.gS B bO (by trivial);have cS:=My.ir B bO (by trivial);have cR:=My.iq B cB du (by trivial);have bX:=My.j3 B bB (by trivial);have bx:=My.jj B bu (by trivial);have dj:=My.je B a9 (by trivial);have dq:=My.jf B a9 (by trivial);have dM:=My.oj B fO cE (by trivial);have cQ:=My.ip B bS (by trivial);have dr:=My.jg B bB bX (by trivial);have bP:=My.fL B bx (by trivial);have bU:=My.fT B bx (by trivial);have gz:=My.om B cS dM cQ (by trivial);exact My.rC B cP bC bu bB dN cR dj dq dM dr bP bU gz F
 case S=>exact fun K H a ns hl hO hS=>⟨a,ns,rfl,hS,hl,fun _=>rfl⟩
 case C=>exact fun _ _ _ _ h=>h
#print axioms PySem.Challenge.cw_landroll_k17_sides_and_rings_holds
