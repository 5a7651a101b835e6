import PyProof.Rows.All
import Wide.All
import OpenK.AllK
import Wide.FinOn
import Lean
import PyProof.EqAt
import PyProof.EqKinds
import PyProof.TupleCall
import PySem.Challenge.RW_landroll_k18_cells_back_from_rings
set_option Elab.async false
set_option linter.all false
set_option maxRecDepth 100000
open PySem.W (Frag kitOne keepIn fnOf codeIn nsIn)
section
open PySem PySem.Spec PyProof.Rows PyProof PySem.W PySem.Calls PySem.Builtin PySem.F
def tN:=@wpAny_bind
def tO:=@wpAny_pure
def tP:=@wpS_bind
def tQ:=@decide_eq_false
def tR:=@Heap.get?_push_of_some
def tS:=@decide_eq_true
def tT:=@wpS_pure
def tU:=@if_pos
def tV:=@if_neg
def tW:=@Array.length_toList
def tX:=@List.length_map
def tY:=@List.mem_cons_self
def tZ:=@Bool.false_ne_true
def t6:=@List.mem_cons_of_mem
def t8:=@List.getElem?_eq_some_iff
def t9:=@Heap.lt_size
def ua:=@List.mem_singleton
def ub:=@List.mem_append
def uc:=@Nat.le_refl
def ud:=@Nat.lt_of_lt_of_le
def uf:=@List.length_take
def ug:=@Array.getElem?_toList
def uh:=@List.size_toArray
def ui:=@List.getElem?_eq_getElem
def uj:=@Paired.length
def uk:=@List.append_assoc
def um:=@Heap.get?_push_size
def uo:=@Array.toList_append
def uq:=@List.take_add_one
def ur:=@Array.toList_push
def uu:=@List.mem_map
def uv:=@List.getLast?_eq_some_getLast
def uw:=@Option.toList_some
def ux:=@List.mem_append_right
def uy:=@List.mem_cons
def uz:=@Nat.ne_of_lt
def uA:=@List.length_append
def uB:=@List.pairwise_append
def uC:=@List.mem_of_getElem?
def uD:=@List.cons.inj
def uE:=@decide_eq_true_eq
def uF:=@PySem.W.mg_none_of
def uG:=@List.take_length
def uH:=@Bool.false_eq_true
def uI:=@List.mem_of_mem_take
def uJ:=@Nat.zero_le
def uK:=@List.cons_ne_nil
def uL:=@PassesOwn.never
def uM:=@List.take_append_drop
def uN:=@List.append_nil
def uO:=@List.map_cons
def uP:=@Int.toNat_natCast
def uQ:=@List.reverse_append
def uR:=@Int.emod_lt_of_pos
def uS:=@wpS_forRange
def uT:=@Bool.eq_iff_iff
def uU:=@List.mem_range
def uV:=@List.getElem?_map
def uW:=@List.mem_of_mem_drop
def uX:=@List.map_map
def uY:=@List.pairwise_iff_getElem
def uZ:=@List.map_append
def u6:=@Int.emod_nonneg
def va:=@Bool.and_eq_true
def vc:=@wpAny_mono
def vd:=@of_decide_eq_true
def ve:=@List.length_range
def vg:=@Int.le_trans
def vh:=@Bool.and_false
def vi:=@PySem.W.kia_one
def vj:=@List.mem_append_left
def vk:=@Nat.le_trans
def vl:=@List.drop_eq_nil_of_le
def vm:=@sizeLine_eq
def vn:=@Option.some.inj
def vo:=@List.getElem?_take_of_lt
def vp:=@List.length_drop
def vq:=@Int.le_refl
def vt:=@MeetsSeq3.plain_eq_loop
def vu:=@List.pairwise_singleton
def vv:=@F.slot_dict_keyiterator_next
def vy:=@wpAny_truthy_bool
def vz:=@wpAny_loadPart'
def vA:=@PySem.mem_of_lookup
def vB:=@List.range_succ
def vC:=@List.getElem?_append_right
def vD:=@Array.perm_iff_toList_perm
def vE:=@List.not_mem_nil
def vF:=@Nat.zero_xor
def vG:=@Int.le_of_lt
def vH:=@List.getElem?_append_left
def vI:=@Bool.false_and
def vJ:=@Array.getElem?_eq_getElem
def vK:=@Nat.pow_le_pow_right
def vL:=@Array.toList_reverse
def vM:=@wpS_modify
def vN:=@wpAny_rule
def vO:=@wpAny_newObj_type
def vP:=@PySem.F.type_list_append
def vQ:=@PySem.F.slot_list_append
end
namespace L2
theorem ep3{α β:Type}{A B C:α->β->Prop}{g:Prop}(h:∃x y,A x y/\B x y/\C x y)(k:∀x y,A x y->B x y->C x y->g):g:=by obtain⟨x,y,a,b,c⟩:=h;exact k x y a b c
end L2
namespace L2
open PySem PySem.Spec PyProof.Rows
noncomputable abbrev Key:=Sum Int Str
noncomputable def il:Key->Value->Bool
 | .inl k,v=>Value.isInt k v
 | .inr x,v=>Value.isStrOf x v
noncomputable def tI(w:World):Key->Int
 | .inl k=>hashInt k
 | .inr x=>hashStr w x
theorem aU:∀{k:Key}{v:Value},il k v=true->(∃i t,k=Sum.inl i/\v=Value.int i t)\/(∃x t,k=Sum.inr x/\v=Value.str x t)
 | .inl i,v,h=>by obtain⟨t,e⟩:=Value.isInt_shape (k:=i) (v:=v) h;exact .inl ⟨i,t,rfl,e⟩
 | .inr x,v,h=>by obtain⟨t,e⟩:=Value.isStrOf_shape (x:=x) (v:=v) h;exact .inr ⟨x,t,rfl,e⟩
theorem mU(i:Int)(t:Tok):il (.inl i) (.int i t)=true:=by simp[il,Value.isInt]
theorem mT(x:Str)(t:Tok):il (.inr x) (.str x t)=true:=by simp[il,Value.isStrOf]
theorem rm(a b:Int):decide ((Sum.inl a:Key)=Sum.inl b)=(a==b):=by
 by_cases e:a=b
 ·subst e;simp
 ·have h:¬(Sum.inl a:Key)=Sum.inl b:=fun q=>e (Sum.inl.inj q);rw[tQ h];exact(beq_eq_false_iff_ne.mpr e).symm
theorem rj(a b:Str):decide ((Sum.inr a:Key)=Sum.inr b)=decide (a=b):=by
 by_cases e:a=b
 ·subst e;simp
 ·have h:¬(Sum.inr a:Key)=Sum.inr b:=fun q=>e (Sum.inr.inj q);rw[tQ h,tQ e]
theorem rl(a:Int)(b:Str):decide ((Sum.inl a:Key)=Sum.inr b)=false:=tQ (fun q=>nomatch q)
theorem rk(a:Str)(b:Int):decide ((Sum.inr a:Key)=Sum.inl b)=false:=tQ (fun q=>nomatch q)
noncomputable def bb(prog:Program)(w:World):PySem.KeyKind prog w Key where
 is:=il
 hash:=tI w
 inj:=fun v a b ha hb=>by
  rcases aU ha with⟨i,t,rfl,rfl⟩|⟨x,t,rfl,rfl⟩
  ·rcases aU hb with⟨j,u,rfl,e⟩|⟨y,u,rfl,e⟩
   ·injection e with e1 _;rw[e1]
   ·exact nomatch e
  ·rcases aU hb with⟨j,u,rfl,e⟩|⟨y,u,rfl,e⟩
   ·exact nomatch e
   ·injection e with e1 _;rw[e1]
 byValue:=fun k v h=>by
  rcases aU h with⟨i,t,rfl,rfl⟩|⟨x,t,rfl,rfl⟩<;>rfl
 pyHash:=fun hv h=>by
  rcases aU hv with⟨i,t,rfl,rfl⟩|⟨x,t,rfl,rfl⟩
  ·exact wpAny_pyHash_int h
  ·exact wpAny_pyHash_str h
 eqBool:=fun hu hv h=>by
  rcases aU hu with⟨i,t,rfl,rfl⟩|⟨x,t,rfl,rfl⟩
  ·rcases aU hv with⟨j,u,rfl,rfl⟩|⟨y,u,rfl,rfl⟩
   ·rw[rm]at h;exact wpAny_eqBool_int h
   ·rw[rl]at h;exact SeqAt.EqAt.int_str i t y u _ _ _ _ h
  ·rcases aU hv with⟨j,u,rfl,rfl⟩|⟨y,u,rfl,rfl⟩
   ·rw[rk]at h;exact SeqAt.EqAt.str_int x t j u _ _ _ _ h
   ·rw[rj]at h;exact wpAny_eqBool_str h
 «strs»:=fun k x t v h=>by
  rcases aU h with⟨i,u,rfl,e⟩|⟨y,u,rfl,e⟩
  ·exact nomatch e
  ·injection e with e1 _
   subst e1
   cases v<;>rfl
theorem jU(prog:Program)(w:World)(i:Int)(t:Tok):(bb prog w).is (.inl i) (.int i t)=true:=mU i t
theorem jT(prog:Program)(w:World)(x:Str)(t:Tok):(bb prog w).is (.inr x) (.str x t)=true:=mT x t
inductive V where
 |non|bl (b:Bool)|int (i:Int)|str (x:Str)|byt (b:Array UInt8)|flt (b:UInt64)|ref (a:Addr)|ty (n:String)
 deriving DecidableEq
noncomputable def RelV:V->Value->Prop
 | .non,u=>u=Value.none
 | .bl b,u=>u=Value.bool b
 | .int i,u=>∃t,u=Value.int i t
 | .str x,u=>∃t,u=Value.str x t
 | .byt b,u=>∃t,u=Value.bytes b t
 | .flt b,u=>∃t,u=Value.float b t
 | .ref a,u=>u=Value.ref a
 | .ty n,u=>u=Value.type n
abbrev Vals:List V->List Value->Prop:=Paired RelV
theorem Vals.length{xs:List V}{us:List Value}(r:Vals xs us):xs.length=us.length:=uj r
theorem Vals.get:∀{xs:List V}{us:List Value}{i:Nat}{x:V},Vals xs us->xs[i]?=some x->∃u,us[i]?=some u/\RelV x u
 |_,_,_,_,.nil,e=>by simp at e
 |_,_,0,_,.cons r _,e=>by simp at e;subst e;exact⟨_,rfl,r⟩
 |_,_,i+1,x,.cons _ t,e=>by obtain⟨u,h1,h2⟩:=Vals.get (i:=i) (x:=x) t (by simpa using e);exact⟨u,by simpa using h1,h2⟩
theorem Vals.append{xs ys:List V}{us ws:List Value}(hI:Vals xs us):Vals ys ws->Vals (xs++ys) (us++ws):=by
 induction hI with
 |nil=>exact fun s=>s
 |cons r t ih=>exact fun s=>.cons r (ih s)
noncomputable def rL:Option V->Option Value->Prop
 |some v,some u=>RelV v u
 |none,none=>True
 |_,_=>False
def KV{κ:Type}:List (κ×V)->List (κ×Value)->Prop:=Paired fun(p:κ×V) (q:κ×Value)=>p.1=q.1/\RelV p.2 q.2
noncomputable def kV:Key->V
 | .inl i=>.int i
 | .inr x=>.str x
inductive HO where
 |lst (xs:List V)
 |tup (xs:List V)
 |dK (kvs:List (Key×V))|dT (kvs:List (List Key×V))
 |set (S:Int->Bool) (n:Nat)
 |ins (C dx:Addr) (fs:List (Str×V))
 |own (x:Addr)
 |xd (fs:List (Str×V))
 |met (f x:Addr)
 |rng (lo hi:Int)
 |frz (o:Obj) (u:HO)
 |tbl (ps:Array Value)
 |ext (φ:Heap->Prop)
noncomputable abbrev Hp:=Addr->Option HO
noncomputable def upd(H:Hp)(a:Addr)(o:HO):Hp:=fun b=>if b=a then some o else H b
theorem ae{H:Hp}{a:Addr}{o:HO}:upd H a o a=some o:=by unfold upd;rw[tU rfl]
theorem ax{H:Hp}{a b:Addr}{o:HO}(h:b≠a):upd H a o b=H b:=by unfold upd;rw[tV h]
theorem oV{H:Hp}{a:Addr}{o u:HO}:upd (upd H a o) a u=upd H a u:=by funext b;unfold upd;split<;>rfl
theorem lK{H:Hp}{a b:Addr}{o u:HO}(h:H a=some o)(h':H b=some u)(d:o≠u):a≠b:=by intro e;subst e;rw[h]at h';exact d (vn h')
theorem bN{H:Hp}{a b:Addr}{o:HO}(h:H a=some o)(h':H b=none):a≠b:=by intro e;subst e;rw[h]at h';cases h'
section
variable(P:Program)(w:World)
noncomputable def bE(H:Hp)(h:Heap)(a:Addr):HO->Prop
 | .lst xs=>xs.length<=sizeLine/\∃(its:List Value)(n:Nat),Vals xs its/\h.get? a=some {cls:=.type "list",data:=.seq its.toArray n}
 | .tup xs=>xs.length<=sizeLine/\∃its:List Value,Vals xs its/\IsTup h a its.toArray
 | .dK kvs=>kvs.length<=sizeLine/\(a==sysModules)=false/\∃vs,KV kvs vs/\h.DictOf (bb P w) a vs
 | .dT kvs=>kvs.length<=sizeLine/\(a==sysModules)=false/\∃xs:List (List Key×Addr×Value),
  Paired (fun(p:List Key×V) (q:List Key×Addr×Value)=>p.1=q.1/\H q.2.1=some (.tup (p.1.map kV))/\RelV p.2 q.2.2) kvs xs/\
  ∃o es ep,h.get? a=some o/\o.ExactDict/\o.data=.dict es ep/\es.toList=xs.map (entryOfKey (tupleKind (bb P w)))/\(xs.map (·.1)).Nodup
 | .set S n=>h.SetOf (intKind P w) a S n
 | .ins C dx fs=>H dx=some (.own a)/\fs.length<=1000/\dx≠a/\h.get? a=some (PySem.W.instObj C dx)/\
  ∃mA,h.Ns1 dx mA/\(∀f,rL (fs.lookup f) (mA f))/\PySem.Within mA (fs.map (·.1))
 | .own _=>∃o,h.get? a=some o
 | .xd fs=>∃mA,h.Ns1 a mA/\∀f,rL (fs.lookup f) (mA f)
 | .rng lo hi=>∃t u v,h.get? a=some {cls:=.type "range",data:=.fields #[.int lo t,.int hi u,.int 1 v]}
 | .frz o u=>h.get? a=some o/\bE H h a u
 | .tbl ps=>h.get? a=some {cls:=.none,data:=.fields ps}
 | .met f x=>h.get? a=some (PySem.W.methodObj (.ref f) (.ref x))
 | .ext φ=>φ h/\(∃o,h.get? a=some o)/\∀h1 h2:Heap,φ h1->(∀o,h1.get? a=some o->h2.get? a=some o)->φ h2
def HOk(H:Hp)(h:Heap):Prop:=∀a o,H a=some o->bE P w H h a o
end
section
variable{P:Program}{w:World}{H H':Hp}{h h':Heap}{a:Addr}{o:HO}
theorem bE.lt(x:bE P w H h a o):a<h.objs.size:=by
 cases o with
 |lst xs=>obtain⟨_,_,_,_,e⟩:=x;exact t9 e
 |tup xs=>obtain⟨_,_,_,p⟩:=x;exact p.lt
 |dK kvs=>obtain⟨_,_,_,_,o,_,_,e,_⟩:=x;exact t9 e
 |dT kvs=>obtain⟨_,_,_,_,o,_,_,e,_⟩:=x;exact t9 e
 |set S n=>obtain⟨o,_,_,_,e,_⟩:=x;exact t9 e
 |ins C dx fs=>obtain⟨_,_,_,e,_⟩:=x;exact t9 e
 |own y=>obtain⟨_,e⟩:=x;exact t9 e
 |xd fs=>obtain⟨_,⟨_,_,_,e,_⟩,_⟩:=x;exact t9 e
 |rng lo hi=>obtain⟨_,_,_,e⟩:=x;exact t9 e
 |frz ob u=>obtain⟨e,_⟩:=x;exact t9 e
 |tbl ps=>exact t9 (show h.get? a=some _ from x)
 |met f y=>exact t9 (show h.get? a=some _ from x)
 |ext φ=>obtain⟨_,⟨_,e⟩,_⟩:=x;exact t9 e
theorem Paired.mapP{α β:Type}{F G:α->β->Prop}{l₁:List α}{l₂:List β}(hI:Paired F l₁ l₂):(∀a b,F a b->G a b)->Paired G l₁ l₂:=by
 induction hI with
 |nil=>exact fun _=>.nil
 |cons r t ih=>exact fun f=>.cons (f _ _ r) (ih f)
theorem bE.stay(x:bE P w H h a o)(k:∀b u,(b=a\/H b=some (.own a))->h.get? b=some u->h'.get? b=some u)
  (ho:∀b,H b=some (.own a)->H' b=some (.own a)) (ht:∀b xs,H b=some (.tup xs)->H' b=some (.tup xs)):bE P w H' h' a o:=by
 induction o with
 |lst xs=>obtain⟨z,its,n,r,e⟩:=x;exact⟨z,its,n,r,k _ _ (.inl rfl) e⟩
 |tup xs=>obtain⟨z,its,r,ob,e,c⟩:=x;exact⟨z,its,r,ob,k _ _ (.inl rfl) e,c⟩
 |dK kvs=>obtain⟨z,y,vs,r,ob,es,ep,e,c⟩:=x;exact⟨z,y,vs,r,ob,es,ep,k _ _ (.inl rfl) e,c⟩
 |dT kvs=>obtain⟨z,y,xs,r,ob,es,ep,e,c⟩:=x;exact⟨z,y,xs,Paired.mapP r fun p q z=>⟨z.1,ht _ _ z.2.1,z.2.2⟩,ob,es,ep,k _ _ (.inl rfl) e,c⟩
 |set S n=>obtain⟨ob,es,ep,t,e,c⟩:=x;exact⟨ob,es,ep,t,k _ _ (.inl rfl) e,c⟩
 |ins C dx fs=>obtain⟨d,z,ne,e,mA,⟨od,es,ep,e2,c⟩,r⟩:=x;exact⟨ho _ d,z,ne,k _ _ (.inl rfl) e,mA,⟨od,es,ep,k _ _ (.inr d) e2,c⟩,r⟩
 |own y=>obtain⟨ob,e⟩:=x;exact⟨ob,k _ _ (.inl rfl) e⟩
 |xd fs=>obtain⟨mA,⟨od,es,ep,e,c⟩,r⟩:=x;exact⟨mA,⟨od,es,ep,k _ _ (.inl rfl) e,c⟩,r⟩
 |rng lo hi=>obtain⟨t,u,v,e⟩:=x;exact⟨t,u,v,k _ _ (.inl rfl) e⟩
 |frz ob u ih=>obtain⟨e,q⟩:=x;exact⟨k _ _ (.inl rfl) e,ih q⟩
 |tbl ps=>have e:h.get? a=some {cls:=.none,data:=.fields ps}:=x;show h'.get? a=some {cls:=.none,data:=.fields ps};exact k a _ (.inl rfl) e
 |met f y=>have e:h.get? a=some (PySem.W.methodObj (.ref f) (.ref y)):=x;show h'.get? a=some (PySem.W.methodObj (.ref f) (.ref y));exact k a _ (.inl rfl) e
 |ext φ=>obtain⟨p,⟨o,e⟩,st⟩:=x;exact⟨st _ _ p fun o q=>k _ _ (.inl rfl) q,⟨o,k _ _ (.inl rfl) e⟩,st⟩
theorem HOk.lt(x:HOk P w H h)(e:H a=some o):a<h.objs.size:=(x a o e).lt
theorem HOk.fresh(x:HOk P w H h)(e:h.objs.size<=a):H a=none:=by
 cases q:H a with
 |none=>rfl
 |some u=>exact absurd (ud (x.lt q) e) (Nat.lt_irrefl _)
theorem HOk.kept(x:HOk P w H h)(k:∀b u,h.get? b=some u->h'.get? b=some u):HOk P w H h':=fun a o e=>(x a o e).stay (fun b u _ q=>k b u q) (fun _ q=>q) fun _ _ q=>q
theorem HOk.laid(x:HOk P w H h)(k:∀b u,h.get? b=some u->h'.get? b=some u)(hp:h.objs.size<=a)(new:bE P w (upd H a o) h' a o):HOk P w (upd H a o) h':=fun b u e=>by
 have hn:=x.fresh hp;by_cases hb:b=a
 ·subst hb;rw[ae]at e;cases e;exact new
 ·rw[ax hb]at e;exact(x b u e).stay (fun c v _ q=>k c v q) (fun c q=>by rw[ax (bN q hn)];exact q) fun c xs q=>by rw[ax (bN q hn)];exact q
end
def Rd(H:Hp)(a:Addr)(u:HO):Prop:=H a=some u\/∃o,H a=some (.frz o u)
theorem Rd.ok{P:Program}{w:World}{H:Hp}{h:Heap}{a:Addr}{u:HO}(r:Rd H a u)(x:HOk P w H h):bE P w H h a u:=by
 rcases r with r|⟨o,r⟩
 ·exact x a u r
 ·obtain⟨_,q⟩:=x a _ r;exact q
noncomputable def Mut:Option HO->Prop
 |some (.lst _)=>True
 |some (.dK _)=>True
 |some (.dT _)=>True
 |some (.set _ _)=>True
 |some (.ins _ _ _)=>True
 |some (.ext _)=>True
 |_=>False
section
variable{P:Program}{w:World}{H:Hp}{h h':Heap}{x e:Addr}{o':HO}
theorem HOk.write(ok:HOk P w H h)(mu:Mut (H x))(he:e=x\/H e=some (.own x))(k:∀b u,b≠e->h.get? b=some u->h'.get? b=some u)(heo:∃u,h'.get? e=some u)
  (new:bE P w (upd H x o') h' x o'):HOk P w (upd H x o') h':=fun b u q=>by
 have nown:∀c y,H c=some (.own y)->c≠x:=fun c y r z=>by subst z;rw[r]at mu;exact mu
 have ntup:∀c xs,H c=some (.tup xs)->c≠x:=fun c xs r z=>by subst z;rw[r]at mu;exact mu
 by_cases hb:b=x
 ·subst hb;rw[ae]at q;cases q;exact new
 ·rw[ax hb]at q;by_cases hbe:b=e
  ·have q':H b=some (.own x):=by
    rcases he with z|z
    ·exact absurd (hbe.trans z) hb
    ·rw[hbe];exact z
   rw[q]at q';cases q';obtain⟨v,hv⟩:=heo;exact⟨v,by rw[hbe];exact hv⟩
  ·refine(ok b u q).stay (fun c v hc r=>k c v ?_ r) (fun c r=>by rw[ax (nown c b r)];exact r) fun c xs r=>by rw[ax (ntup c xs r)];exact r
   rcases hc with rfl|hc
   ·exact hbe
   ·rintro rfl;rcases he with z|z
    ·exact nown c b hc z
    ·rw[hc]at z;cases z;exact hb rfl
end
structure Un(fs ex:List Addr)(H H':Hp)(h h':Heap):Prop where
 keep:∀b o,h.get? b=some o->H b=none->b∉fs->b∉ex->h'.get? b=some o
 slot:∀b o,h.get? b=some o->H b=none->b∈fs->b∉ex->∃sl,h'.get? b=some {o with slots:=sl}
 free:∀b o,h.get? b=some o->H b=none->b∉ex->H' b=none
 there:∀b o,h.get? b=some o->b∉ex->∃o',h'.get? b=some o'
 tups:∀b xs,H b=some (.tup xs)->H' b=some (.tup xs)
 frzs:∀b o u,H b=some (.frz o u)->H' b=some (.frz o u)
 tbls:∀b ps,H b=some (.tbl ps)->∃more,H' b=some (.tbl (ps++more))
section
variable{fs fs' ex ex':List Addr}{H H1 H2:Hp}{h h1 h2 h':Heap}{a x e:Addr}{o:HO}
theorem Un.any(u:Un fs ex H H1 h h1){b:Addr}{ob:Obj}(q:h.get? b=some ob)(n:H b=none)(hx:b∉ex):∃sl,h1.get? b=some {ob with slots:=sl}:=by
 by_cases hb:b∈fs
 ·exact u.slot b ob q n hb hx
 ·exact⟨ob.slots,u.keep b ob q n hb hx⟩
theorem Un.kept(k:∀b u,h.get? b=some u->h'.get? b=some u):Un fs ex H H h h':=
 ⟨fun b ob q _ _ _=>k b ob q,fun b ob q _ _ _=>⟨ob.slots,k b ob q⟩,fun _ _ _ n _=>n,fun b ob q _=>⟨ob,k b ob q⟩,fun _ _ q=>q,fun _ _ _ q=>q,fun _ ps q=>⟨#[],by rw[q];simp⟩⟩
theorem Un.refl:Un fs ex H H h h:=Un.kept fun _ _ q=>q
theorem Un.laid(k:∀b u,h.get? b=some u->h'.get? b=some u)(hp:h.objs.size<=a)(hn:H a=none):Un fs ex H (upd H a o) h h' where
 keep:=fun b u q _ _ _=>k b u q
 slot:=fun b u q _ _ _=>⟨u.slots,k b u q⟩
 free:=fun b u q n _=>by rw[ax (uz (ud (t9 q) hp))];exact n
 there:=fun b u q _=>⟨u,k b u q⟩
 tups:=fun b xs q=>by rw[ax (bN q hn)];exact q
 frzs:=fun b u xs q=>by rw[ax (bN q hn)];exact q
 tbls:=fun b ps q=>⟨#[],by rw[ax (bN q hn),q];simp⟩
theorem Un.write(mu:Mut (H x))(he:e=x\/H e=some (.own x))(k:∀b u,b≠e->h.get? b=some u->h'.get? b=some u)(heo:∃u,h'.get? e=some u):Un fs ex H (upd H x o) h h':=by
 have hx:∀b,H b=none->b≠x:=fun b n z=>by subst z;rw[n]at mu;exact mu
 have hb:∀b,H b=none->b≠e:=fun b n z=>by
  subst z;rcases he with r|r
  ·exact hx b n r
  ·rw[n]at r;cases r
 have hm:∀b u,H b=some u->¬Mut (some u)->b≠x:=fun b u q nm z=>by subst z;rw[q]at mu;exact nm mu
 refine⟨fun b u q n _ _=>k b u (hb b n) q,fun b u q n _ _=>⟨u.slots,k b u (hb b n) q⟩,fun b u q n _=>by rw[ax (hx b n)];exact n,fun b u q _=>?_,
  fun b xs q=>by rw[ax (hm b _ q fun z=>z)];exact q,fun b u xs q=>by rw[ax (hm b _ q fun z=>z)];exact q,fun b ps q=>⟨#[],by rw[ax (hm b _ q fun z=>z),q];simp⟩⟩
 by_cases hbe:b=e
 ·subst hbe;exact heo
 ·exact⟨u,k b u hbe q⟩
end
noncomputable def trk(h:Heap)(H:Hp):List Addr:=(List.range h.objs.size).filter fun a=>(H a).isSome
noncomputable def i7(h:Heap)(H:Hp):Heap:=PySem.W.hideAll h (trk h H)
theorem mX(h:Heap)(H:Hp):(i7 h H).objs.size=h.objs.size:=PySem.W.hideAll_size _ _
theorem oo{h:Heap}{H:Hp}{b:Addr}{o:Obj}(e:h.get? b=some o)(n:H b=none):(i7 h H).get? b=some o:=
 PySem.W.hideAll_get _ e fun hm=>by have q:(H b).isSome=true:=(List.mem_filter.mp hm).2;rw[n]at q;simp at q
theorem pG{h:Heap}{H:Hp}{b:Addr}{o:Obj}(e:(i7 h H).get? b=some o):h.get? b=some o/\H b=none:=by
 have e':h.get? b=some o:=PySem.W.of_hideAll (trk h H) e;refine⟨e',?_⟩;cases q:H b with
 |none=>rfl
 |some x=>have hm:b∈trk h H:=List.mem_filter.mpr ⟨uU.mpr (t9 e'),by simp[q]⟩;have z:(i7 h H).get? b=none:=PySem.W.hideAll_none (trk h H) hm;rw[z]at e;cases e
structure Mod(K:Frag)(mg:Str->Option Value)(base:Heap):Prop where
 kin:K.In base
 glob:base.Ns mainGlobals mg
 blt:∃mb,base.Ns builtinsNs mb/\∀x:Str,x≠"__name__"->mb x=bootBuiltins x
 nolimit:base.NoLimit
structure Cx where
 prog:Program
 w:World
 K:Frag
 mg:Str->Option Value
 base:Heap
 A:Around
 N:List Str
 s₀:Shared
 H₀:Hp
 env:Env
 outer:List Env
 stack:List Env
 ex:List Addr
 fn:Str->Bool
 calm:Bool
 pn:List (Addr×Obj)
 xe:Value->Shared->Prop
noncomputable def frs(l:List Env):List Addr:=l.filterMap (·.frame)
noncomputable abbrev Cx.fs(X:Cx):List Addr:=frs X.outer
def Vis(sc:Scope)(x:Str):Prop:=sc.names.lookup x=some .local\/sc.names.lookup x=some .cell\/sc.names.lookup x=some .free
def Loc(sc:Scope)(x:Str):Prop:=sc.names.lookup x=some .local\/sc.names.lookup x=some .cell
def Look(env:Env)(h:Heap)(m:Str->Option Value)(x:Str)(u:Value):Prop:=
 (env.kindOf x=some .local/\m x=some u)\/((env.kindOf x=some .cell\/env.kindOf x=some .free)/\∃c,env.cells.lookup x=some c/\h.IsCell c (some u))
structure Cx.Ok(X:Cx):Prop where
 mod:Mod X.K X.mg X.base
 kind:X.env.scope.kind=.function
 glob:X.env.globals=mainGlobals
 blt:X.env.builtins=builtinsNs
 above:X.s₀.heap.objs.size<=X.env.locals
 inj:∀x y c,X.env.cells.lookup x=some c->X.env.cells.lookup y=some c->x=y
 has:∀x,(X.env.kindOf x=some .cell\/X.env.kindOf x=some .free)->∃c,X.env.cells.lookup x=some c
 cab:∀x c,X.fn x=true->X.env.cells.lookup x=some c->X.s₀.heap.objs.size<=c
 hd:X.calm=true->X.A.handled=none
 frames:X.A.frames=some X.stack
 stk:X.stack=X.outer\/(X.stack=X.env::X.outer/\X.env.frame=some X.env.locals)
 exf:∀b∈X.ex,b≠X.env.locals/\∀x c,X.env.cells.lookup x=some c->c≠b
 bs:∀b o,X.base.get? b=some o->X.s₀.heap.get? b=some o/\X.H₀ b=none
 bsz:X.base.objs.size<=X.s₀.heap.objs.size
 noex:∀b o,X.base.get? b=some o->b∉X.ex
 exfs:∀b∈X.ex,b∉X.fs
 funs:X.s₀.heap.FunFrames X.base X.outer
 frf:∀b∈X.fs,X.H₀ b=none
structure Inv(X:Cx)(pins:List (Addr×Obj))(σ:List (Option V))(H:Hp)(s:Shared):Prop where
 ok:X.Ok
 os:s.os=X.s₀.os
 bare:AllBare s.gens
 base:Un X.fs X.ex X.H₀ H X.s₀.heap s.heap
 loc:∃m,s.heap.Ns X.env.locals m/\∀(i:Nat)(x:Str)(v:V),X.N[i]?=some x->σ[i]?=some (some v)->Vis X.env.scope x->∃u,RelV v u/\Look X.env s.heap m x u
 cell:∀x c,X.env.cells.lookup x=some c->∃v,s.heap.IsCell c v
 free:H X.env.locals=none
 freeC:∀x c,X.env.cells.lookup x=some c->H c=none
 pin:∀p∈X.pn++pins,s.heap.get? p.1=some p.2/\H p.1=none/\p.1≠X.env.locals/\p.1∉X.fs/\∀v,p.2.data≠ .cell v
 hok:HOk X.prog X.w H s.heap
 len:σ.length=X.N.length
section
variable{X:Cx}{pins:List (Addr×Obj)}{σ:List (Option V)}{H H':Hp}{s:Shared}{h':Heap}
theorem Cx.Ok.nofr(ok:X.Ok){b:Addr}{o:Obj}(e:X.base.get? b=some o):b∉X.fs:=fun hb=>by have:=(ok.funs.mem hb).1;rw[e]at this;cases this
theorem Inv.bs(I:Inv X pins σ H s):∀b o,X.base.get? b=some o->s.heap.get? b=some o/\H b=none:=fun b o e=>⟨I.base.keep b o (I.ok.bs b o e).1 (I.ok.bs b o e).2 (I.ok.nofr e) (I.ok.noex b o e),I.base.free b o (I.ok.bs b o e).1 (I.ok.bs b o e).2 (I.ok.noex b o e)⟩
theorem Inv.bk(I:Inv X pins σ H s):∀b o,X.base.get? b=some o->s.heap.get? b=some o:=fun b o e=>(I.bs b o e).1
theorem Inv.mod(I:Inv X pins σ H s):Mod X.K X.mg X.base:=I.ok.mod
theorem Inv.kIn(I:Inv X pins σ H s):X.K.In s.heap:=I.ok.mod.kin.keeps I.bk
theorem Inv.lt(I:Inv X pins σ H s):X.env.locals<s.heap.objs.size:=let ⟨_,hn,_⟩:=I.loc;hn.lt
theorem Inv.sz(I:Inv X pins σ H s):X.s₀.heap.objs.size<=s.heap.objs.size:=vk I.ok.above (Nat.le_of_lt I.lt)
theorem Inv.nofs(I:Inv X pins σ H s){a:Addr}(h:s.heap.objs.size<=a):a∉X.fs:=fun hb=>by obtain⟨_,o,ho,_⟩:=I.ok.funs.mem hb;exact absurd (ud (t9 ho) (vk I.sz h)) (Nat.lt_irrefl _)
theorem Inv.cne(I:Inv X pins σ H s):∀x c,X.env.cells.lookup x=some c->c≠X.env.locals:=fun x c e z=>by obtain⟨v,o,ho,hd⟩:=I.cell x c e;obtain⟨m,⟨o',es,ep,ho',hd',_⟩,_⟩:=I.loc;rw[z,ho']at ho;cases ho;rw[hd']at hd;cases hd
theorem Inv.funs(I:Inv X pins σ H s):s.heap.FunFrames X.base X.outer:=by
 have all:∀(l:List Env),(∀b∈frs l,b∈X.fs)->X.s₀.heap.FunFrames X.base l->s.heap.FunFrames X.base l:=by
  intro l
  induction l with
  |nil=>intro _ _;trivial
  |cons env r ih=>intro hs hl;obtain⟨hk,⟨L,o,hf,hn,ho,hd⟩,hr⟩:=hl;have hL:L∈X.fs:=hs L (by unfold frs;rw[List.filterMap_cons,hf];exact tY);obtain⟨sl,e⟩:=I.base.slot L o ho (I.ok.frf L hL) hL fun z=>I.ok.exfs L z hL;exact⟨hk,⟨L,_,hf,hn,e,hd⟩,ih (fun b hb=>hs b (by unfold frs;rw[List.filterMap_cons,hf];exact t6 _ hb)) hr⟩
 exact all X.outer (fun _ hb=>hb) I.ok.funs
theorem Inv.stack(I:Inv X pins σ H s):s.heap.FunFrames X.base X.stack:=by
 rcases I.ok.stk with e|⟨e,hf⟩
 ·rw[e];exact I.funs
 ·rw[e];obtain⟨m,hn,_⟩:=I.loc;refine .cons (by rw[I.ok.kind];decide) hf hn ?_ I.funs;exact Heap.get?_none_of_le (vk I.ok.bsz I.ok.above)
theorem Inv.stkSub(I:Inv X pins σ H s):∀b∈frs X.stack,b∈X.env.locals::X.fs:=fun b hb=>by
 rcases I.ok.stk with e|⟨e,hf⟩
 ·rw[e]at hb;exact t6 _ hb
 ·rw[e]at hb;unfold frs at hb;rw[List.filterMap_cons,hf]at hb;exact hb
theorem Inv.stkFree(I:Inv X pins σ H s):∀b∈frs X.stack,H b=none:=fun b hb=>by
 rcases uy.mp (I.stkSub b hb)with e|hb
 ·rw[e];exact I.free
 ·obtain⟨_,o,ho,_⟩:=I.ok.funs.mem hb;exact I.base.free b o ho (I.ok.frf b hb) fun z=>I.ok.exfs b z hb
theorem Inv.step{g':Array GenState}{t':Nat}{d':Drawn}{ch:List Addr}(I:Inv X pins σ H s)
  (hch:∀b∈ch,(b∈X.ex\/X.s₀.heap.objs.size<=b)/\b≠X.env.locals/\(∀x c,X.env.cells.lookup x=some c->c≠b)/\∀p∈X.pn++pins,p.1≠b)
  (keep:∀b o,b≠X.env.locals->b∉X.fs->b∉ch->s.heap.get? b=some o->H b=none->h'.get? b=some o)
  (slot:∀b o,b≠X.env.locals->b∈X.fs->b∉ch->s.heap.get? b=some o->H b=none->∃sl,h'.get? b=some {o with slots:=sl}) (free:∀b o,b∉ch->s.heap.get? b=some o->H b=none->H' b=none)
  (there:∀b o,b∉ch->s.heap.get? b=some o->∃o',h'.get? b=some o')
  (tups:∀b xs,H b=some (.tup xs)->H' b=some (.tup xs)) (frzs:∀b o u,H b=some (.frz o u)->H' b=some (.frz o u)) (tbls:∀b ps,H b=some (.tbl ps)->∃more,H' b=some (.tbl (ps++more)))
  (ns:∀m,s.heap.Ns X.env.locals m->h'.Ns X.env.locals m) (hok:HOk X.prog X.w H' h') (hg:AllBare g'):
  Inv X pins σ H' {s with heap:=h',gens:=g',drawn:=d',toks:=t'}:=by
 have neL:∀b o,X.s₀.heap.get? b=some o->b≠X.env.locals:=fun b o e=>uz (ud (t9 e) I.ok.above);have neC:∀b o,X.s₀.heap.get? b=some o->b∉X.ex->b∉ch:=fun b o e hx hb=>by
  rcases (hch b hb).1 with z|z
  ·exact hx z
  ·exact absurd (ud (t9 e) z) (Nat.lt_irrefl _)
 have cellK:∀x c,X.env.cells.lookup x=some c->∀v,s.heap.IsCell c v->h'.IsCell c v:=fun x c e v ⟨o,ho,hd⟩=>by
  have nch:c∉ch:=fun z=>(hch c z).2.2.1 x c e rfl;by_cases hc:c∈X.fs
  ·obtain⟨sl,q⟩:=slot c o (I.cne x c e) hc nch ho (I.freeC x c e);exact⟨_,q,hd⟩
  ·exact⟨o,keep c o (I.cne x c e) hc nch ho (I.freeC x c e),hd⟩
 refine⟨I.ok,I.os,hg,⟨fun b o e n hb hx=>?_,fun b o e n hb hx=>?_,fun b o e n hx=>?_,fun b o e hx=>?_,fun b xs e=>tups b xs (I.base.tups b xs e),fun b o xs e=>frzs b o xs (I.base.frzs b o xs e),fun b ps e=>?_⟩,?_,fun x c e=>?_,?_,fun x c e=>?_,fun p hp=>?_,hok,I.len⟩
 ·exact keep b o (neL b o e) hb (neC b o e hx) (I.base.keep b o e n hb hx) (I.base.free b o e n hx)
 ·obtain⟨sl,e1⟩:=I.base.slot b o e n hb hx;obtain⟨sl',e2⟩:=slot b _ (neL b o e) hb (neC b o e hx) e1 (I.base.free b o e n hx);exact⟨sl',e2⟩
 ·obtain⟨o',e1⟩:=I.base.there b o e hx;exact free b o' (neC b o e hx) e1 (I.base.free b o e n hx)
 ·obtain⟨o',e1⟩:=I.base.there b o e hx;exact there b o' (neC b o e hx) e1
 ·obtain⟨m1,e1⟩:=I.base.tbls b ps e;obtain⟨m2,e2⟩:=tbls b _ e1;exact⟨m1++m2,by rw[e2,Array.append_assoc]⟩
 ·obtain⟨m,hn,hl⟩:=I.loc;refine⟨m,ns m hn,fun i x v e1 e2 e3=>?_⟩;obtain⟨u,r,l⟩:=hl i x v e1 e2 e3;refine⟨u,r,?_⟩;rcases l with l|⟨k,c,e,z⟩
  ·exact .inl l
  ·exact .inr ⟨k,c,e,cellK x c e _ z⟩
 ·obtain⟨v,z⟩:=I.cell x c e;exact⟨v,cellK x c e v z⟩
 ·obtain⟨m,⟨o,_,_,ho,_⟩,_⟩:=I.loc;exact free _ o (fun z=>(hch _ z).2.1 rfl) ho I.free
 ·obtain⟨v,o,ho,hd⟩:=I.cell x c e;exact free c o (fun z=>(hch c z).2.2.1 x c e rfl) ho (I.freeC x c e)
 ·obtain⟨e,n,ne,nf,d⟩:=I.pin p hp;have nch:p.1∉ch:=fun z=>(hch p.1 z).2.2.2 p hp rfl;exact⟨keep p.1 p.2 ne nf nch e n,free p.1 p.2 nch e n,ne,nf,d⟩
theorem Inv.un{t':Nat}(I:Inv X pins σ H s)(u:Un X.fs [] H H' s.heap h')(hok:HOk X.prog X.w H' h'):Inv X pins σ H' {s with heap:=h',toks:=t'}:=by
 obtain⟨m,⟨o,es,ep,ho,r⟩,_⟩:=id I.loc;obtain⟨sl,hL⟩:=u.any ho I.free (by simp)
 exact I.step (g':=s.gens) (d':=s.drawn) (ch:=[]) (fun _ z=>nomatch z) (fun b o _ hb _ e n=>u.keep b o e n hb (by simp)) (fun b o _ hb _ e n=>u.slot b o e n hb (by simp)) (fun b o _ e n=>u.free b o e n (by simp)) (fun b o _ e=>u.there b o e (by simp)) u.tups u.frzs u.tbls (fun m' hm=>by
  obtain⟨o',es',ep',ho',r'⟩:=hm;rw[ho]at ho';cases ho'
  exact⟨_,es',ep',hL,r'⟩) hok I.bare
theorem Inv.call{g':Array GenState}{t':Nat}{d':Drawn}{ch:List Addr}(I:Inv X pins σ H s)(u:Un (frs X.stack) ch H H' s.heap h')(hok:HOk X.prog X.w H' h')(hg:AllBare g')
  (hch:∀b∈ch,(b∈X.ex\/X.s₀.heap.objs.size<=b)/\b≠X.env.locals/\(∀x c,X.env.cells.lookup x=some c->c≠b)/\∀p∈X.pn++pins,p.1≠b):
  Inv X pins σ H' {s with heap:=h',gens:=g',drawn:=d',toks:=t'}:=by
 obtain⟨m,⟨o,es,ep,ho,r⟩,_⟩:=id I.loc;obtain⟨sl,hL⟩:=u.any ho I.free fun z=>(hch _ z).2.1 rfl
 exact I.step (ch:=ch) hch (fun b o hL hb hc e n=>u.keep b o e n (fun z=>(uy.mp (I.stkSub b z)).elim hL hb) hc) (fun b o _ _ hc e n=>u.any e n hc) (fun b o hc e n=>u.free b o e n hc) (fun b o hc e=>u.there b o e hc) u.tups u.frzs u.tbls (fun m' hm=>by
  obtain⟨o',es',ep',ho',r'⟩:=hm;rw[ho]at ho';cases ho'
  exact⟨_,es',ep',hL,r'⟩) hok hg
theorem Inv.turned{t':Nat}{it:Addr}(I:Inv X pins σ H s)(k:∀b o,b≠it->s.heap.get? b=some o->h'.get? b=some o)(hn:H it=none)(hL:it≠X.env.locals)
  (h1:it∈X.ex\/X.s₀.heap.objs.size<=it) (h2:∀x c,X.env.cells.lookup x=some c->c≠it) (h3:∀p∈X.pn++pins,p.1≠it):Inv X pins σ H {s with heap:=h',toks:=t'}:=by
 have nit:∀b u,H b=some u->b≠it:=fun b u e z=>by rw[z,hn]at e;cases e
 refine I.step (g':=s.gens) (d':=s.drawn) (ch:=[it]) (fun b hb=>?_) (fun b o _ _ hc e _=>k b o (fun z=>hc (by simp[z])) e) (fun b o _ _ hc e _=>⟨o.slots,k b o (fun z=>hc (by simp[z])) e⟩) (fun _ _ _ _ n=>n)
  (fun b o hc e=>⟨o,k b o (fun z=>hc (by simp[z])) e⟩) (fun _ _ e=>e) (fun _ _ _ e=>e) (fun b ps e=>⟨#[],by rw[e];simp⟩) (fun m hm=>?_) (fun b u e=>?_) I.bare
 ·have e:b=it:=by simpa using hb
  subst e;exact⟨h1,hL,h2,h3⟩
 ·obtain⟨o,es,ep,ho,r⟩:=hm;exact⟨o,es,ep,k _ o (Ne.symm hL) ho,r⟩
 ·refine(I.hok b u e).stay (fun c v hc q=>k c v ?_ q) (fun _ q=>q) fun _ _ q=>q;rcases hc with z|z
  ·rw[z];exact nit b u e
  ·exact nit c _ z
theorem Inv.tok(I:Inv X pins σ H s)(t:Nat):Inv X pins σ H {s with toks:=t}:=I.un (h':=s.heap) (t':=t) Un.refl I.hok
theorem Inv.kept{t':Nat}(I:Inv X pins σ H s)(k:∀b u,s.heap.get? b=some u->h'.get? b=some u):Inv X pins σ H {s with heap:=h',toks:=t'}:=I.un (Un.kept k) (I.hok.kept k)
theorem Inv.laid{a:Addr}{o:HO}{t':Nat}(I:Inv X pins σ H s)(k:∀b u,s.heap.get? b=some u->h'.get? b=some u)(hp:s.heap.objs.size<=a)(new:bE X.prog X.w (upd H a o) h' a o):
 Inv X pins σ (upd H a o) {s with heap:=h',toks:=t'}:=I.un (Un.laid k hp (I.hok.fresh hp)) (I.hok.laid k hp new)
theorem Inv.write{x e:Addr}{o:HO}{t':Nat}(I:Inv X pins σ H s)(mu:Mut (H x))(he:e=x\/H e=some (.own x))(k:∀b u,b≠e->s.heap.get? b=some u->h'.get? b=some u)(heo:∃u,h'.get? e=some u)
 (new:bE X.prog X.w (upd H x o) h' x o):Inv X pins σ (upd H x o) {s with heap:=h',toks:=t'}:=I.un (Un.write mu he k heo) (I.hok.write mu he k heo new)
theorem Inv.weak{σ':List (Option V)}(I:Inv X pins σ H s)(hl:σ'.length=σ.length)(w:∀(i:Nat) v,σ'[i]?=some (some v)->σ[i]?=some (some v)):Inv X pins σ' H s:=
 ⟨I.ok,I.os,I.bare,I.base,let ⟨m,hn,hl'⟩:=I.loc;⟨m,hn,fun i x v e1 e2 e3=>hl' i x v e1 (w i v e2) e3⟩,I.cell,I.free,I.freeC,I.pin,I.hok,hl.trans I.len⟩
theorem Inv.pins_of{pins':List (Addr×Obj)}(I:Inv X pins σ H s)(h:∀p∈pins',s.heap.get? p.1=some p.2/\H p.1=none/\p.1≠X.env.locals/\p.1∉X.fs/\∀v,p.2.data≠ .cell v):Inv X pins' σ H s:=
 ⟨I.ok,I.os,I.bare,I.base,I.loc,I.cell,I.free,I.freeC,fun p hp=>(ub.mp hp).elim (fun z=>I.pin p (vj _ z)) (h p),I.hok,I.len⟩
theorem jS{N:List Str}(hN:N.Nodup){i j:Nat}{x:Str}(a:N[i]?=some x)(b:N[j]?=some x):i=j:=by obtain⟨h1,e1⟩:=t8.mp a;obtain⟨h2,e2⟩:=t8.mp b;exact(List.getElem_inj hN).mp (e1.trans e2.symm)
theorem g0{M:Model}{A:Around}{E:Value->Shared->Prop}{i:Nat}{x:Str}{v:V}{u:Value}{Q:Unit->Shared->Prop}(I:Inv X pins σ H s)(hN:X.N.Nodup)(hi:X.N[i]?=some x)(hx:Loc X.env.scope x)(r:RelV v u)
  (h:∀s',Inv X pins (σ.set i (some v)) H s'->(∃a,Heap.SameBut a s.heap s'.heap/\(a=X.env.locals\/X.env.cells.lookup x=some a))->Q () s') (hf:X.fn x=true\/X.env.scope.names.lookup x=some .local:=by first|exact .inl rfl|exact .inr rfl|assumption):wpAny M A (storeName X.env x u) Q E s:=by
 obtain⟨m,hn,hl⟩:=id I.loc;have hcls:(X.env.scope.kind== .class||(X.env.scope.kind== .module&&X.env.locals != X.env.globals))=false:=by rw[I.ok.kind];rfl
 have hiσ:i<σ.length:=by rw[I.len];exact(t8.mp hi).1
 have cne:=I.cne;have tracked:∀{a:Addr}{h':Heap},(∃o,s.heap.get? a=some o/\H a=none)->Heap.SameBut a s.heap h'->HOk X.prog X.w H h':=fun {a h'} ha hs b ob e=>by
  obtain⟨_,_,hfree⟩:=ha;refine(I.hok b ob e).stay (fun c w' hc q=>(hs.2 c ?_).trans q) (fun _ q=>q) fun _ _ q=>q;rintro rfl;rcases hc with rfl|hc
  ·rw[hfree]at e;cases e
  ·rw[hfree]at hc;cases hc
 rcases hx with hk|hk
 ·refine wpAny_storeName_local hk hn (fun h' hn' hs=>?_) hcls;obtain⟨oL,_,_,hoL,_⟩:=id hn;refine h _ ⟨I.ok,I.os,I.bare,⟨fun b o e n hb hx=>?_,fun b o e n hb hx=>?_,I.base.free,fun b o e hx=>?_,I.base.tups,I.base.frzs,I.base.tbls⟩,⟨_,hn',fun j y v' e1 e2 e3=>?_⟩,fun y c e=>?_,I.free,I.freeC,fun p hp=>?_,tracked ⟨oL,hoL,I.free⟩ hs,by simpa using I.len⟩ ⟨_,hs,.inl rfl⟩
  ·exact(hs.2 b (uz (ud (t9 e) I.ok.above))).trans (I.base.keep b o e n hb hx)
  ·obtain⟨sl,e1⟩:=I.base.slot b o e n hb hx;exact⟨sl,(hs.2 b (uz (ud (t9 e) I.ok.above))).trans e1⟩
  ·obtain⟨o',e1⟩:=I.base.there b o e hx;exact⟨o',(hs.2 b (uz (ud (t9 e) I.ok.above))).trans e1⟩
  ·by_cases hj:j=i
   ·subst hj;rw[hi]at e1;cases e1;rw[List.getElem?_set_self hiσ]at e2;cases e2;exact⟨u,r,.inl ⟨hk,by simp⟩⟩
   ·rw[List.getElem?_set_ne (Ne.symm hj)]at e2;obtain⟨u',r',q⟩:=hl j y v' e1 e2 e3;refine⟨u',r',?_⟩;rcases q with⟨k,e⟩|⟨k,c,e,z⟩
    ·refine .inl ⟨k,?_⟩;have:y≠x:=fun e=>hj (jS hN e1 (e▸hi));simp[this,e]
    ·exact .inr ⟨k,c,e,z.sameBut hs (cne y c e)⟩
  ·obtain⟨w',z⟩:=I.cell y c e;exact⟨w',z.sameBut hs (cne y c e)⟩
  ·obtain⟨e,n,ne,nf,d⟩:=I.pin p hp;exact⟨(hs.2 p.1 ne).trans e,n,ne,nf,d⟩
 ·have hfn:X.fn x=true:=by
   rcases hf with z|z
   ·exact z
   ·rw[z]at hk;cases hk
  obtain⟨c,hc⟩:=I.ok.has x (.inl hk);obtain⟨w',z⟩:=I.cell x c hc;refine wpAny_storeName_cell I.ok.kind hk hc z (fun h' hc' hs=>?_);obtain⟨oc,hoc,hocd⟩:=id z;refine h {s with heap:=h'} ⟨I.ok,I.os,I.bare,⟨fun b o e n hb hx=>?_,fun b o e n hb hx=>?_,I.base.free,fun b o e hx=>?_,I.base.tups,I.base.frzs,I.base.tbls⟩,⟨m,hn.sameBut hs (Ne.symm (cne x c hc)),fun j y v' e1 e2 e3=>?_⟩,fun y c' e=>?_,I.free,I.freeC,fun p hp=>?_,tracked ⟨oc,hoc,I.freeC x c hc⟩ hs,by simpa using I.len⟩ ⟨c,hs,.inr hc⟩
  ·exact(hs.2 b (uz (ud (t9 e) (I.ok.cab x c hfn hc)))).trans (I.base.keep b o e n hb hx)
  ·obtain⟨sl,e1⟩:=I.base.slot b o e n hb hx;exact⟨sl,(hs.2 b (uz (ud (t9 e) (I.ok.cab x c hfn hc)))).trans e1⟩
  ·obtain⟨o',e1⟩:=I.base.there b o e hx;exact⟨o',(hs.2 b (uz (ud (t9 e) (I.ok.cab x c hfn hc)))).trans e1⟩
  ·by_cases hj:j=i
   ·subst hj;rw[hi]at e1;cases e1;rw[List.getElem?_set_self hiσ]at e2;cases e2;exact⟨u,r,.inr ⟨.inl hk,c,hc,hc'⟩⟩
   ·rw[List.getElem?_set_ne (Ne.symm hj)]at e2;obtain⟨u',r',q⟩:=hl j y v' e1 e2 e3;refine⟨u',r',?_⟩;rcases q with q|⟨k,c',e,z'⟩
    ·exact .inl q
    ·refine .inr ⟨k,c',e,z'.sameBut hs ?_⟩;rintro rfl;exact hj (jS hN e1 (I.ok.inj _ _ _ e hc▸hi))
  ·by_cases hcc:c'=c
   ·subst hcc;exact⟨_,hc'⟩
   ·obtain⟨w2,z2⟩:=I.cell y c' e;exact⟨w2,z2.sameBut hs hcc⟩
  ·obtain⟨e,n,ne,nf,d⟩:=I.pin p hp;refine⟨(hs.2 p.1 ?_).trans e,n,ne,nf,d⟩;intro q;rw[q,hoc]at e;have q':oc=p.2:=vn e;exact d w' (by rw[<-q'];exact hocd)
theorem jx{M:Model}{A:Around}{E:Value->Shared->Prop}{i:Nat}{x:Str}{v:V}{u:Value}{Q:Unit->Shared->Prop}(I:Inv X pins σ H s)(hN:X.N.Nodup)(hi:X.N[i]?=some x)(hx:Loc X.env.scope x)(r:RelV v u)
  (h:∀s',Inv X pins (σ.set i (some v)) H s'->Q () s') (hf:X.fn x=true\/X.env.scope.names.lookup x=some .local:=by first|exact .inl rfl|exact .inr rfl|assumption):wpAny M A (storeName X.env x u) Q E s:=
 g0 I hN hi hx r (fun s' I' _=>h s' I') hf
theorem Inv.call'{s':Shared}{ch:List Addr}(I:Inv X pins σ H s)(ho:s'.os=s.os)(u:Un (frs X.stack) ch H H' s.heap s'.heap)(hok:HOk X.prog X.w H' s'.heap)(hg:AllBare s'.gens)
  (hch:∀b∈ch,(b∈X.ex\/X.s₀.heap.objs.size<=b)/\b≠X.env.locals/\(∀x c,X.env.cells.lookup x=some c->c≠b)/\∀p∈X.pn++pins,p.1≠b):Inv X pins σ H' s':=by
 obtain⟨h',g',d',t',o'⟩:=s';have e:o'=s.os:=ho;subst e;exact I.call (g':=g') (t':=t') (d':=d') u hok hg hch
end
noncomputable abbrev XK:=Value->Option Addr->Hp->Prop
noncomputable abbrev St:=List (Option V)
noncomputable abbrev VK:=V->Hp->Prop
noncomputable abbrev TE:=St->Hp->VK->Prop
noncomputable abbrev TT:=St->Hp->(Bool->Hp->Prop)->Prop
noncomputable abbrev TA:=St->Hp->(List V->Hp->Prop)->Prop
structure Ends where
 nx:St->Hp->Prop
 rt:VK
 bk:St->Hp->Prop:=fun _ _=>False
 ct:St->Hp->Prop:=fun _ _=>False
noncomputable abbrev TS:=Ends->St->Hp->Prop
def EP(X:Cx)(pins:List (Addr×Obj))(σ:St)(Q:VK)(u:Value)(s':Shared):Prop:=∃v H',Inv X pins σ H' s'/\RelV v u/\Q v H'
def TP(X:Cx)(pins:List (Addr×Obj))(σ:St)(Q:Bool->Hp->Prop)(b:Bool)(s':Shared):Prop:=∃H',Inv X pins σ H' s'/\Q b H'
def AP(X:Cx)(pins:List (Addr×Obj))(σ:St)(Q:List V->Hp->Prop)(us:List Value)(s':Shared):Prop:=∃vs H',Inv X pins σ H' s'/\Vals vs us/\Q vs H'
def SP(X:Cx)(pins:List (Addr×Obj))(D:Ends)(f:Flow)(s':Shared):Prop:=
 match f with
 | .next=>∃σ' H',Inv X pins σ' H' s'/\D.nx σ' H'
 | .brk=>∃σ' H',Inv X pins σ' H' s'/\D.bk σ' H'
 | .cont=>∃σ' H',Inv X pins σ' H' s'/\D.ct σ' H'
 | .ret u=>∃v σ' H',Inv X pins σ' H' s'/\RelV v u/\D.rt v H'
def PE(X:Cx)(e:Expr)(t:TE):Prop:=
 ∀(pins:List (Addr×Obj))(s:Shared)(σ:St)(H:Hp)(Q:VK),Inv X pins σ H s->t σ H Q->wpAny (model X.prog X.w) X.A (eval e X.env) (EP X pins σ Q) X.xe s
def PT(X:Cx)(e:Expr)(t:TT):Prop:=
 ∀(pins:List (Addr×Obj))(s:Shared)(σ:St)(H:Hp)(Q:Bool->Hp->Prop),Inv X pins σ H s->t σ H Q->wpAny (model X.prog X.w) X.A (isTrue e X.env (eval e X.env)) (TP X pins σ Q) X.xe s
def PW(X:Cx)(e:Expr)(t:TT):Prop:=
 ∀(whole:Sem Value)(pins:List (Addr×Obj))(s:Shared)(σ:St)(H:Hp)(Q:Bool->Hp->Prop),Inv X pins σ H s->t σ H Q->wpAny (model X.prog X.w) X.A (isTrue e X.env whole) (TP X pins σ Q) X.xe s
theorem PW.pt{X:Cx}{e:Expr}{t:TT}(h:PW X e t):PT X e t:=h _
def PA(X:Cx)(es:List Expr)(t:TA):Prop:=
 ∀(pos:Pos)(pins:List (Addr×Obj))(s:Shared)(σ:St)(H:Hp)(Q:List V->Hp->Prop),Inv X pins σ H s->t σ H Q->wpAny (model X.prog X.w) X.A (spliced (backTo pos (starEach es X.env))) (AP X pins σ Q) X.xe s
def PS(X:Cx)(st:Stmt)(t:TS):Prop:=
 ∀(pins:List (Addr×Obj))(s:Shared)(σ:St)(H:Hp)(D:Ends),Inv X pins σ H s->t D σ H->wpAny (model X.prog X.w) X.A (exec st X.env) (SP X pins D) X.xe s
def PSs(X:Cx)(st:List Stmt)(t:TS):Prop:=
 ∀(pins:List (Addr×Obj))(s:Shared)(σ:St)(H:Hp)(D:Ends),Inv X pins σ H s->t D σ H->wpAny (model X.prog X.w) X.A (execs st X.env) (SP X pins D) X.xe s
theorem thn{α:Type}{t:Sem α}{Q Q':α->Shared->Prop}{M:Model}{A:Around}{E:Value->Shared->Prop}{s:Shared}(h:wpAny M A t Q E s)(hQ:∀a s,Q a s->Q' a s):wpAny M A t Q' E s:=vc h hQ fun _ _ x=>x
section
variable{X:Cx}
def rQ(i:Nat):TE:=fun σ H Q=>∃v,σ[i]?=some (some v)/\Q v H
def tC(v:V):TE:=fun _ H Q=>Q v H
theorem qR{i:Nat}{x:Str}{pos:Pos}(hN:X.N[i]?=some x)(hv:Vis X.env.scope x)(hd:(x==("__debug__":Str))=false:=by decide)(hcd:(x==("__classdict__":Str))=false:=by decide):PE X (.Name x pos) (rQ i):=by
 intro pins s σ H Q I h;obtain⟨v,e,h⟩:=h;obtain⟨m,hn,hl⟩:=I.loc;obtain⟨u,r,l⟩:=hl i x v hN e hv;have fin:EP X pins σ Q u s:=⟨v,H,I,r,h⟩;rcases l with⟨hk,hm⟩|⟨hk,c,hc,hcell⟩
 ·exact wpAny_Name (wpAny_loadName_local I.ok.kind hk hn hm fin) hd
 ·rcases hk with hk|hk
  ·exact wpAny_Name (wpAny_loadName_cell I.ok.kind hk hc hcell fin) hd
  ·exact wpAny_Name (wpAny_loadName_free I.ok.kind hk hc hcell fin hcd) hd
theorem ab{i j pos}:PE X (.Constant (.int i) j pos) (tC (.int i)):=fun _ _ _ H _ I h=>wpAny_Constant_int ⟨.int i,H,I.tok _,⟨_,rfl⟩,h⟩
theorem h8{b j pos}:PE X (.Constant (.bool b) j pos) (tC (.bl b)):=fun _ _ _ H _ I h=>Constant_bool ⟨.bl b,H,I,rfl,h⟩
def Gl(X:Cx)(x:Str):Prop:=X.env.kindOf x=some .globalImplicit
theorem pT{E:Value->Shared->Prop}{pins:List (Addr×Obj)}{s:Shared}{σ:St}{H:Hp}{x:Str}{u:Value}{pos:Pos}{Q:Value->Shared->Prop}(I:Inv X pins σ H s)(hg:Gl X x)(hm:X.mg x=some u)(h:Q u s)
  (hd:(x==("__debug__":Str))=false:=by decide):wpAny (model X.prog X.w) X.A (eval (.Name x pos) X.env) Q E s:=
 Calls.Name_function_global I.ok.kind hg (Calls.loadGlobal_global (by rw[I.ok.glob];exact I.mod.glob.keeps I.bk) hm h) hd
theorem fw{E:Value->Shared->Prop}{pins:List (Addr×Obj)}{s:Shared}{σ:St}{H:Hp}{x:Str}{u:Value}{pos:Pos}{Q:Value->Shared->Prop}(I:Inv X pins σ H s)(hg:Gl X x)(hm:X.mg x=none)(hv:bootBuiltins x=some u)(h:Q u s)
  (hn:x≠"__name__":=by decide) (hd:(x==("__debug__":Str))=false:=by decide):wpAny (model X.prog X.w) X.A (eval (.Name x pos) X.env) Q E s:=by
 obtain⟨mb,h1,h2⟩:=I.mod.blt;exact Calls.Name_function_global I.ok.kind hg (Calls.loadGlobal_builtin (by rw[I.ok.glob];exact I.mod.glob.keeps I.bk) hm (by rw[I.ok.blt];exact h1.keeps I.bk) ((h2 x hn).trans hv) h) hd
theorem lI{x:Str}{v:V}{u:Value}{pos:Pos}(hg:Gl X x)(hm:X.mg x=none)(hv:bootBuiltins x=some u)(r:RelV v u)(hn:x≠"__name__":=by decide)(hd:(x==("__debug__":Str))=false:=by decide):PE X (.Name x pos) (tC v):=
 fun _ _ _ H _ I h=>fw I hg hm hv ⟨v,H,I,r,h⟩ hn hd
variable{a b:Expr}{ta tb:TE}{pos:Pos}
def PC(X:Cx)(op:CmpOp)(a b:Expr)(t:TE):Prop:=
 ∀(pins:List (Addr×Obj))(s:Shared)(σ:St)(H:Hp)(Q:VK),Inv X pins σ H s->t σ H Q->
  wpAny (model X.prog X.w) X.A (eval a X.env) (fun v s₁=>wpAny (model X.prog X.w) X.A (eval b X.env) (fun u s₂=>wpAny (model X.prog X.w) X.A (compareOp op v u) (EP X pins σ Q) X.xe s₂) X.xe s₁) X.xe s
def tB(t:TE):TT:=fun σ H Q=>t σ H fun x H1=>∃c,x=.bl c/\Q c H1
theorem iN{op:CmpOp}{t:TE}(h:PC X op a b t)(h1:behindInMarks op b=false:=by first|exact nobehind _ (by decide) (by decide)|rfl):PT X (.Compare a [op] [b] pos) (tB t):=by intro pins s σ H Q I hw;refine wpAny_isTrue_Compare1 (thn (h pins s σ H _ I hw) fun v s1 h1=>thn h1 fun u s2 h2=>thn h2 fun c s3 hPz=>?_) h1;obtain⟨x,H1,I1,r1,q1⟩:=hPz;obtain⟨d,rfl,q⟩:=q1;cases r1;exact vy ⟨H1,I1,q⟩
theorem iM{e:Expr}{t:TE}(h:PE X e t)(he:∀whole,isTrue e X.env whole=(do let v <-whole;standAt e.pos;holding [v] (truthy v)):=by intro _;rfl):PT X e (tB t):=by intro pins s σ H Q I hw;refine isTrue_plain (thn (h pins s σ H _ I hw) fun v s1 hPz=>?_) (he _);obtain⟨x,H1,I1,r1,q1⟩:=hPz;obtain⟨d,rfl,q⟩:=q1;cases r1;exact vy ⟨H1,I1,q⟩
variable{tA tB':TT}{rest:List Expr}
def tD(t u:TT):TT:=fun σ H Q=>t σ H fun c H1=>if c=true then u σ H1 Q else Q false H1
def tOr(t u:TT):TT:=fun σ H Q=>t σ H fun c H1=>if c=true then Q true H1 else u σ H1 Q
def th(t:TT):TT:=fun σ H Q=>t σ H fun c H1=>Q (!c) H1
theorem ph(ha:PT X a tA):PW X (.BoolOp .And [a] pos) tA:=by
 intro wh pins s σ H Q I h;refine isTrue_and (thn (ha pins s σ H Q I h) fun c s1 e=>?_);cases c with
 |true=>exact isTrue_and_nil e
 |false=>exact e
theorem nA(ha:PT X a tA):PW X (.BoolOp .Or [a] pos) tA:=by
 intro wh pins s σ H Q I h;refine isTrue_or (thn (ha pins s σ H Q I h) fun c s1 e=>?_);cases c with
 |false=>exact isTrue_or_nil e
 |true=>exact e
theorem qO(ha:PT X a tA)(hb:PW X (.BoolOp .And (b::rest) pos) tB'):PW X (.BoolOp .And (a::b::rest) pos) (tD tA tB'):=by
 intro wh pins s σ H Q I h;refine isTrue_and (thn (ha pins s σ H _ I h) fun c s1 hPz=>?_);obtain⟨H1,I1,q1⟩:=hPz;cases c with
 |true=>exact hb wh pins s1 σ H1 Q I1 q1
 |false=>exact⟨H1,I1,q1⟩
theorem lG(ha:PT X a tA)(hb:PW X (.BoolOp .Or (b::rest) pos) tB'):PW X (.BoolOp .Or (a::b::rest) pos) (tOr tA tB'):=by
 intro wh pins s σ H Q I h;refine isTrue_or (thn (ha pins s σ H _ I h) fun c s1 hPz=>?_);obtain⟨H1,I1,q1⟩:=hPz;cases c with
 |true=>exact⟨H1,I1,q1⟩
 |false=>exact hb wh pins s1 σ H1 Q I1 q1
theorem nE(ha:PT X a tA):PT X (.UnaryOp .Not a pos) (th tA):=by intro pins s σ H Q I h;exact isTrue_not (ha pins s σ H (fun c H1=>Q (!c) H1) I h)
def r0(ta tb:TE):TE:=fun σ H Q=>ta σ H fun x H1=>∃c,x=.bl c/\if c=true then tb σ H1 Q else Q (.bl false) H1
def tf(ta tb:TE):TE:=fun σ H Q=>ta σ H fun x H1=>∃c,x=.bl c/\if c=true then Q (.bl true) H1 else tb σ H1 Q
def rV(ta:TE):TE:=fun σ H Q=>ta σ H fun x H1=>∃c,x=.bl c/\Q (.bl (!c)) H1
theorem fu{op}{t:TE}(h:PE X a t):PE X (.BoolOp op [a] pos) t:=fun pins s σ H Q I hw=>BoolOp_one (h pins s σ H Q I hw)
theorem iP(ha:PE X a ta)(hb:PE X (.BoolOp .And (b::rest) pos) tb):PE X (.BoolOp .And (a::b::rest) pos) (r0 ta tb):=by
 intro pins s σ H Q I h;refine BoolOp_and (thn (ha pins s σ H _ I h) fun v s1 hPz=>?_);obtain⟨x,H1,I1,r1,q1⟩:=hPz;obtain⟨c,rfl,q1⟩:=q1;cases r1;refine vy ?_;cases c with
 |true=>exact hb pins s1 σ H1 Q I1 q1
 |false=>exact⟨.bl false,H1,I1,rfl,q1⟩
theorem qv(ha:PE X a ta)(hb:PE X (.BoolOp .Or (b::rest) pos) tb):PE X (.BoolOp .Or (a::b::rest) pos) (tf ta tb):=by
 intro pins s σ H Q I h;refine BoolOp_or (thn (ha pins s σ H _ I h) fun v s1 hPz=>?_);obtain⟨x,H1,I1,r1,q1⟩:=hPz;obtain⟨c,rfl,q1⟩:=q1;cases r1;refine vy ?_;cases c with
 |false=>exact hb pins s1 σ H1 Q I1 q1
 |true=>exact⟨.bl true,H1,I1,rfl,q1⟩
theorem qS(ha:PE X a ta):PE X (.UnaryOp .Not a pos) (rV ta):=by intro pins s σ H Q I h;refine UnaryOp_ (thn (ha pins s σ H _ I h) fun v s1 hPz=>?_);obtain⟨x,H1,I1,r1,q1⟩:=hPz;obtain⟨c,rfl,q1⟩:=q1;cases r1;exact not_of (vy ⟨.bl (!c),H1,I1,rfl,q1⟩)
end
def SqL(K:Frag)(H:Hp)(a:Addr)(xs:List V):Prop:=
 Rd H a (.lst xs)\/
  ∃(o:Obj)(its:Array Value)(n:Nat),K.lookup a=some o/\o.cls=.type "list"/\o.dict=none/\o.data=.seq its n/\its.size<=sizeLine/\Vals xs its.toList
def SqT(K:Frag)(H:Hp)(a:Addr)(xs:List V):Prop:=
 Rd H a (.tup xs)\/
  ∃(o:Obj)(its:Array Value)(n:Nat),K.lookup a=some o/\o.cls=.type "tuple"/\o.data=.seq its n/\its.size<=sizeLine/\Vals xs its.toList
noncomputable def tL:Value->Option V
 | .none=>some .non
 | .bool b=>some (.bl b)
 | .int i _=>some (.int i)
 | .str x _=>some (.str x)
 | .bytes b _=>some (.byt b)
 | .float b _=>some (.flt b)
 | .ref a=>some (.ref a)
 | .type n=>some (.ty n)
 |_=>none
theorem RelV.abs{x:V}{u:Value}(r:RelV x u):tL u=some x:=by
 cases x with
 |non=>cases r;rfl
 |bl _=>cases r;rfl
 |int _=>obtain⟨t,rfl⟩:=r;rfl
 |str _=>obtain⟨t,rfl⟩:=r;rfl
 |byt _=>obtain⟨t,rfl⟩:=r;rfl
 |flt _=>obtain⟨t,rfl⟩:=r;rfl
 |ref _=>cases r;rfl
 |ty _=>cases r;rfl
theorem RelV.inj{x y:V}{u:Value}(r:RelV x u)(q:RelV y u):x=y:=vn (r.abs.symm.trans q.abs)
theorem Vals.inj:∀{xs ys:List V}{us:List Value},Vals xs us->Vals ys us->xs=ys
 |_,_,_,.nil,.nil=>rfl
 |_,_,_,.cons r t,.cons r' t'=>by rw[r.inj r',Vals.inj t t']
section
variable{X:Cx}{pins:List (Addr×Obj)}{σ:St}{H:Hp}{s:Shared}{a:Addr}{xs ys:List V}
theorem SqL.of{K:Frag}(h:H a=some (.lst xs)):SqL K H a xs:=.inl (.inl h)
theorem SqT.of{K:Frag}(h:H a=some (.tup xs)):SqT K H a xs:=.inl (.inl h)
theorem Inv.list(I:Inv X pins σ H s)(h:SqL X.K H a xs):∃its:List Value,Vals xs its/\PlainL s.heap a its.toArray/\xs.length<=sizeLine:=by
 rcases h with h|⟨o,its,n,hk,hc,hd,hs,hz,r⟩
 ·obtain⟨z,its,n,r,e⟩:=h.ok I.hok;exact⟨its,r,⟨_,n,e,rfl,rfl,rfl⟩,z⟩
 ·refine⟨its.toList,r,⟨o,n,I.kIn a o hk,hc,hd,by simpa using hs⟩,?_⟩;have e:=r.length;simp only[tW]at e;omega
theorem Inv.tuple(I:Inv X pins σ H s)(h:SqT X.K H a xs):∃its:List Value,Vals xs its/\IsTup s.heap a its.toArray/\xs.length<=sizeLine:=by
 rcases h with h|⟨o,its,n,hk,hc,hs,hz,r⟩
 ·obtain⟨z,its,r,p⟩:=h.ok I.hok;exact⟨its,r,p,z⟩
 ·refine⟨its.toList,r,⟨o,I.kIn a o hk,hc,n,by simpa using hs⟩,?_⟩;have e:=r.length;simp only[tW]at e;omega
theorem Inv.list_inj(I:Inv X pins σ H s)(h:SqL X.K H a xs)(h':SqL X.K H a ys):xs=ys:=by
 obtain⟨its,r,⟨o,n,e,_,_,d⟩,_⟩:=I.list h;obtain⟨its',r',⟨o',n',e',_,_,d'⟩,_⟩:=I.list h';rw[e]at e';cases e';rw[d]at d';injection d' with d1 _;have:its=its':=by simpa using congrArg Array.toList d1
 subst this;exact r.inj r'
theorem Inv.tuple_inj(I:Inv X pins σ H s)(h:SqT X.K H a xs)(h':SqT X.K H a ys):xs=ys:=by
 obtain⟨its,r,⟨o,e,_,n,d⟩,_⟩:=I.tuple h;obtain⟨its',r',⟨o',e',_,n',d'⟩,_⟩:=I.tuple h';rw[e]at e';cases e';rw[d]at d';injection d' with d1 _;have:its=its':=by simpa using congrArg Array.toList d1
 subst this;exact r.inj r'
end
noncomputable abbrev Cx.wish(X:Cx)(E:Value->Shared->Prop):Cx:={X with xe:=E}
noncomputable abbrev Cx.nox(X:Cx):Cx:=X.wish fun _ _=>False
theorem Cx.Ok.wish{X:Cx}(ok:X.Ok)(E:Value->Shared->Prop):(X.wish E).Ok:=
 ⟨ok.mod,ok.kind,ok.glob,ok.blt,ok.above,ok.inj,ok.has,ok.cab,ok.hd,ok.frames,ok.stk,ok.exf,ok.bs,ok.bsz,ok.noex,ok.exfs,ok.funs,ok.frf⟩
theorem Cx.Ok.unwish{X:Cx}{E:Value->Shared->Prop}(ok:(X.wish E).Ok):X.Ok:=
 ⟨ok.mod,ok.kind,ok.glob,ok.blt,ok.above,ok.inj,ok.has,ok.cab,ok.hd,ok.frames,ok.stk,ok.exf,ok.bs,ok.bsz,ok.noex,ok.exfs,ok.funs,ok.frf⟩
section
variable{X:Cx}{pins:List (Addr×Obj)}{σ:St}{H:Hp}{s:Shared}{E:Value->Shared->Prop}
theorem Inv.wish(I:Inv X pins σ H s)(E:Value->Shared->Prop):Inv (X.wish E) pins σ H s:=⟨I.ok.wish E,I.os,I.bare,I.base,I.loc,I.cell,I.free,I.freeC,I.pin,I.hok,I.len⟩
theorem Inv.unwish(I:Inv (X.wish E) pins σ H s):Inv X pins σ H s:=⟨I.ok.unwish,I.os,I.bare,I.base,I.loc,I.cell,I.free,I.freeC,I.pin,I.hok,I.len⟩
theorem SP.unwish{D:Ends}{f:Flow}{s':Shared}(h:SP (X.wish E) pins D f s'):SP X pins D f s':=by
 cases f with
 |next=>obtain⟨σ',H',I,q⟩:=h;exact⟨σ',H',I.unwish,q⟩
 |brk=>obtain⟨σ',H',I,q⟩:=h;exact⟨σ',H',I.unwish,q⟩
 |cont=>obtain⟨σ',H',I,q⟩:=h;exact⟨σ',H',I.unwish,q⟩
 |ret u=>obtain⟨v,σ',H',I,r,q⟩:=h;exact⟨v,σ',H',I.unwish,r,q⟩
theorem PSs.nox{st:List Stmt}{t:TS}(h:PSs X.nox st t):PSs X st t:=fun pins s σ H D I hw=>vc (h pins s σ H D (I.wish _) hw) (fun _ _ q=>q.unwish) fun _ _ z=>False.elim z
end
section
variable{X:Cx}{st:Stmt}{rest:List Stmt}{t u:TS}{e:Expr}{te:TE}{pos:Pos}
def rW:TS:=fun D σ H=>D.nx σ H
def sY(t u:TS):TS:=fun D σ H=>t {D with nx:=u D} σ H
theorem aS:PSs X [] rW:=fun _ _ σ H _ I h=>wpAny_execs_nil ⟨σ,H,I,h⟩
theorem af(h1:PS X st t)(h2:PSs X rest u):PSs X (st::rest) (sY t u):=by
 intro pins s σ H D I h;refine wpAny_execs_cons (thn (h1 pins s σ H {D with nx:=u D} I h) fun f s1 q=>?_);cases f with
 |next=>obtain⟨σ',H',I',q⟩:=q;exact h2 pins s1 σ' H' D I' q
 |ret v=>exact q
 |brk=>exact q
 |cont=>exact q
theorem aj(h1:PS X st t):PSs X [st] t:=by
 intro pins s σ H D I h;refine wpAny_execs_cons (thn (h1 pins s σ H D I h) fun f s1 q=>?_);cases f with
 |next=>exact wpAny_execs_nil q
 |ret v=>exact q
 |brk=>exact q
 |cont=>exact q
theorem Inv.quiet{pins:List (Addr×Obj)}{σ:St}{H:Hp}{s:Shared}(I:Inv X pins σ H s):interactive X.env=false:=by simp[interactive,I.ok.kind]
def rX(te:TE):TS:=fun D σ H=>te σ H fun _ H1=>D.nx σ H1
theorem e9(he:PE X e te)(hs:swapsWith e none pos.line X.env=pure false:=by rfl):PS X (.Expr e pos) (rX te):=by intro pins s σ H D I h;exact wpAny_Expr_any (thn (he pins s σ H _ I h) fun v s1 hPz=>L2.ep3 hPz fun x H1 I1 r1 q1=>⟨σ,H1,I1,q1⟩) I.quiet hs
def sZ(te:TE):TS:=fun D σ H=>te σ H D.rt
theorem aF(he:PE X e te):PS X (.Return (some e) pos) (sZ te):=by intro pins s σ H D I h;exact wpAny_Return_some (thn (he pins s σ H _ I h) fun v s1 hPz=>L2.ep3 hPz fun x H1 I1 r1 q1=>⟨x,σ,H1,I1,r1,q1⟩)
def tm(c:TT)(t u:TS):TS:=fun D σ H=>c σ H fun b H1=>if b=true then t D σ H1 else u D σ H1
theorem bD{c:Expr}{a b:List Stmt}{tc:TT}(hc:PT X c tc)(ha:PSs X a t)(hb:PSs X b u):PS X (.If c a b pos) (tm tc t u):=by
 intro pins s σ H D I h;refine wpAny_If (thn (hc pins s σ H _ I h) fun d s1 hPz=>?_);obtain⟨H1,I1,q1⟩:=hPz;cases d with
 |true=>exact ha pins s1 σ H1 D I1 q1
 |false=>exact hb pins s1 σ H1 D I1 q1
end
noncomputable abbrev TG:=V->St->Hp->(St->Hp->Prop)->Prop
noncomputable abbrev TGs:=List V->St->Hp->(St->Hp->Prop)->Prop
def PG(X:Cx)(target:Expr)(t:TG):Prop:=
 ∀(pins:List (Addr×Obj))(s:Shared)(σ:St)(H:Hp)(v:V)(u:Value)(Q:St->Hp->Prop),Inv X pins σ H s->RelV v u->t v σ H Q->
  wpAny (model X.prog X.w) X.A (assign target X.env u) (fun _ s'=>∃σ' H',Inv X pins σ' H' s'/\Q σ' H') X.xe s
def PGs(X:Cx)(ts:List Expr)(t:TGs):Prop:=
 ∀(pins:List (Addr×Obj))(s:Shared)(σ:St)(H:Hp)(vs:List V)(us:List Value)(Q:St->Hp->Prop),Inv X pins σ H s->Vals vs us->t vs σ H Q->
  wpAny (model X.prog X.w) X.A (assignInOrder ((assignEach ts X.env).map (·.2)) us) (fun _ s'=>∃σ' H',Inv X pins σ' H' s'/\Q σ' H') X.xe s
section
variable{X:Cx}{pos:Pos}
def eF(i:Nat):TG:=fun v σ H Q=>Q (σ.set i (some v)) H
theorem aK{i:Nat}{x:Str}(hN:X.N.Nodup)(hi:X.N[i]?=some x)(hx:Loc X.env.scope x)(hf:X.fn x=true\/X.env.scope.names.lookup x=some .local:=by first|exact .inl rfl|exact .inr rfl|assumption):PG X (.Name x pos) (eF i):=by intro pins s σ H v u Q I r h;exact wpAny_assign_Name (jx I hN hi hx r (fun s' I'=>⟨_,H,I',h⟩) hf)
def rA:TGs:=fun vs σ H Q=>vs=[]/\Q σ H
def j5(t:TG)(u:TGs):TGs:=fun vs σ H Q=>∃v r,vs=v::r/\t v σ H fun σ' H'=>u r σ' H' Q
theorem iO:PGs X [] rA:=by intro pins s σ H vs us Q I r h;obtain⟨e,h⟩:=h;subst e;cases r;exact assignInOrder_nil ⟨σ,H,I,h⟩
theorem dc{e:Expr}{es:List Expr}{t:TG}{u:TGs}(h1:PG X e t)(h2:PGs X es u)
  (hs:(assignEach (e::es) X.env).map (·.2)=assign e X.env::(assignEach es X.env).map (·.2):=by rfl):PGs X (e::es) (j5 t u):=by
 intro pins s σ H vs us Q I r h;obtain⟨v,vr,e1,h⟩:=h;subst e1;cases r with
 |cons r rr=>rw[hs];refine assignInOrder_cons (thn (h1 pins s σ H _ _ _ I r h) fun _ s1 hPz=>?_);obtain⟨σ1,H1,I1,q1⟩:=hPz;exact h2 pins s1 σ1 H1 _ _ Q I1 rr q1
def p8(K:Frag)(n:Nat)(t:TGs):TG:=fun v σ H Q=>∃a xs,v=.ref a/\SqT K H a xs/\xs.length=n/\t xs σ H Q
theorem kA{es:List Expr}{k:Nat}{t:TGs}{n:Nat}(hc:X.calm=true)(h:PGs X es t)
  (hn:(assignEach es X.env).length=n:=by rfl) (hst:(assignEach es X.env).findIdx? (·.1)=none:=by rfl):PG X (.Tuple es k pos) (p8 X.K n t):=by
 intro pins s σ H v u Q I r hw;obtain⟨a,xs,e1,hq,hl,hw⟩:=hw;subst e1;cases r;obtain⟨its,rv,ht,hz⟩:=I.tuple hq;refine assign_Tuple_tuple (I.ok.hd hc) ht (by simp[hn,<-hl,rv.length]) hst fun h' hx=>?_;have I1:Inv X pins σ H {s with heap:=h'}:=I.kept (t':=s.toks) fun b o e=>hx b o (uz (t9 e)) e;exact h pins _ σ H xs _ Q I1 (by simpa using rv) hw
def rZ(te:TE)(g:TG):TS:=fun D σ H=>te σ H fun x H1=>g x σ H1 D.nx
theorem ao{i:Nat}{x:Str}{e:Expr}{te:TE}{pos':Pos}(hN:X.N.Nodup)(hi:X.N[i]?=some x)(hx:Loc X.env.scope x)(he:PE X e te)(hs:swapsWith e (some (.Name x pos')) pos.line X.env=pure false:=by rfl)(hf:X.fn x=true\/X.env.scope.names.lookup x=some .local:=by first|exact .inl rfl|exact .inr rfl|assumption):
  PS X (.Assign [.Name x pos'] e pos) (rZ te (eF i)):=by
 intro pins s σ H D I h;refine wpAny_Assign_Name (thn (he pins s σ H _ I h) fun v s1 hPz=>?_) hs;obtain⟨y,H1,I1,r1,q1⟩:=hPz;exact jx I1 hN hi hx r1 (fun s2 I2=>⟨_,H1,I2,q1⟩) hf
def qG(c:TT)(tb:TS):TS:=fun D σ H=>∃W:Nat->St->Hp->Prop,(∃m,W m σ H)/\∀m σ H,W m σ H->
 c σ H fun b H1=>if b=true then ∃N:St->Hp->Prop,(∀σ' H',N σ' H'->∃m',m'<m/\W m' σ' H')/\tb {D with nx:=N,ct:=N,bk:=D.nx} σ H1 else D.nx σ H1
theorem nF{c:Expr}{body:List Stmt}{tc:TT}{tb:TS}(hp:PassesOwn (model X.prog X.w) X.A X.env X.xe)(hc:PT X c tc)(hb:PSs X body tb):PS X (.While c body [] pos) (qG tc tb):=by
 intro pins s σ H D I h;obtain⟨W,⟨m0,w0⟩,turn⟩:=h;refine wpAny_While (codeAny_whileLoop (fun n s'=>∃σ' H',Inv X pins σ' H' s'/\W n σ' H') ?_ m0 ⟨σ,H,I,w0⟩);rintro n s1 ⟨σ1,H1,I1,w1⟩;refine wpAny_passesOwn hp (thn (hc pins s1 σ1 H1 _ I1 (turn n σ1 H1 w1)) fun b s2 hPz=>?_);obtain⟨H2,I2,q2⟩:=hPz;cases b with
 |true=>
  obtain⟨N,hN,q2⟩:=q2;rw[tU rfl];refine wpAny_passesOwn hp (thn (hb pins s2 σ1 H2 _ I2 q2) fun f s3 q3=>?_);cases f with
  |next=>obtain⟨σ3,H3,I3,n3⟩:=q3;obtain⟨m',hm,w3⟩:=hN σ3 H3 n3;exact⟨m',hm,σ3,H3,I3,w3⟩
  |cont=>obtain⟨σ3,H3,I3,n3⟩:=q3;obtain⟨m',hm,w3⟩:=hN σ3 H3 n3;exact⟨m',hm,σ3,H3,I3,w3⟩
  |brk=>exact q3
  |ret v=>exact q3
 |false=>rw[tV tZ];exact wpAny_execs_nil ⟨σ1,H2,I2,q2⟩
end
structure It where
 go:Nat->Hp->Prop
 yld:Nat->Hp->V->Hp->Prop
 stop:Nat->Hp->Prop
def fE(X:Cx)(pins:List (Addr×Obj))(H:Hp)(b:Addr):Prop:=
 H b=none/\b≠X.env.locals/\b∉X.fs/\(b∈X.ex\/X.s₀.heap.objs.size<=b)/\(∀x c,X.env.cells.lookup x=some c->c≠b)/\∀p∈X.pn++pins,p.1≠b
theorem Inv.fpOk{X:Cx}{pins:List (Addr×Obj)}{σ:St}{H H':Hp}{s:Shared}{b:Addr}(I:Inv X pins σ H s)(hb:s.heap.objs.size<=b)(hn:H' b=none):fE X pins H' b:=by
 refine⟨hn,Nat.ne_of_gt (ud I.lt hb),I.nofs hb,.inr (vk I.sz hb),fun x c e z=>?_,fun p hp z=>?_⟩
 ·obtain⟨v,q⟩:=I.cell x c e;exact absurd (ud q.lt (by rw[z];exact hb)) (Nat.lt_irrefl _)
 ·exact absurd (ud (t9 (I.pin p hp).1) (by rw[z];exact hb)) (Nat.lt_irrefl _)
structure Turn(P:Program)(w:World)(K:Frag)(tg:Expr)(J:It)(fp:List Addr)(it:Addr)(tn:Nat->Heap->Prop):Prop where
 mem:it∈fp
 obj:∀i h,tn i h->∀b∈fp,∃o,h.get? b=some o/\∀v,o.data≠ .cell v
 keep:∀i h h',tn i h->(∀b∈fp,∀o,h.get? b=some o->h'.get? b=some o)->tn i h'
 item:∀(X:Cx),X.prog=P->X.w=w->X.K=K->X.calm=true->∀(i:Nat)(pins:List (Addr×Obj))(s:Shared)(σ:St)(H:Hp)(E:Value->Shared->Prop),Inv X pins σ H s->(∀b∈fp,fE X pins H b)->tn i s.heap->J.go i H->
  wpAny (model P w) X.A (pyNext (.ref it)) (fun r s1=>∃u,r=some u/\
   wpAny (model P w) X.A (letOwnedTupleGo tg (.ref it) u) (fun _ s2=>∃x H',Inv X pins σ H' s2/\RelV x u/\J.yld i H x H'/\tn (i+1) s2.heap/\∀b∈fp,H' b=none) E s1) E s
 done:∀(X:Cx),X.prog=P->X.w=w->X.K=K->X.calm=true->∀(i:Nat)(pins:List (Addr×Obj))(s:Shared)(σ:St)(H:Hp)(E:Value->Shared->Prop),Inv X pins σ H s->(∀b∈fp,fE X pins H b)->tn i s.heap->J.stop i H->
  wpAny (model P w) X.A (pyNext (.ref it)) (fun r s1=>r=none/\Inv X pins σ H s1) E s
 self:∀(A:Around)(i:Nat)(s:Shared)(Q:Value->Shared->Prop)(E:Value->Shared->Prop),tn i s.heap->Q (.ref it) s->wpAny (model P w) A (pyIter (.ref it)) Q E s
noncomputable abbrev TI:=St->Hp->(It->Hp->Prop)->Prop
def PIE(X:Cx)(pins:List (Addr×Obj))(σ:St)(tg:Expr)(R:It->Hp->Prop)(itv:Value)(s2:Shared):Prop:=
 ∃(it:Addr)(fp:List Addr)(tn:Nat->Heap->Prop)(J:It)(H':Hp),itv=.ref it/\Inv X pins σ H' s2/\Turn X.prog X.w X.K tg J fp it tn/\tn 0 s2.heap/\(∀b∈fp,fE X pins H' b)/\R J H'
def PI(X:Cx)(tg iter:Expr)(wi:TI):Prop:=
 ∀(pins:List (Addr×Obj))(s:Shared)(σ:St)(H:Hp)(R:It->Hp->Prop),Inv X pins σ H s->wi σ H R->
  wpAny (model X.prog X.w) X.A (eval iter X.env) (fun v s1=>wpAny (model X.prog X.w) X.A (pyIter v) (PIE X pins σ tg R) X.xe s1) X.xe s
theorem oq {M : Model} {A : Around} {E : Value → Shared → Prop} {s : Shared} {tg : Expr} {it : Addr} {u : Value} {o : Obj} {n : String} {vs : Array Value} {Q : Unit → Shared → Prop} (ho : s.heap.get? it = some o) (hc : o.cls = .type n) (hd : o.data = .fields vs)
    (hn : ["enumerate", "zip", "dict_itemiterator", "dict_reverseitemiterator", "odict_iterator", "itertools.zip_longest", "itertools.pairwise"].contains n = false) (hQ : Q () s) : wpAny M A (letOwnedTupleGo tg (.ref it) u) Q E s := by
  unfold letOwnedTupleGo
  cases tg <;> first
    | exact wpAny_pure hQ
    | (cases u <;> first
        | exact wpAny_pure hQ
        | (refine wpAny_bind (wpAny_load ho ?_)
           rw [hc, hd]
           show wpAny M A (if (["enumerate", "zip", "dict_itemiterator", "dict_reverseitemiterator", "odict_iterator", "itertools.zip_longest", "itertools.pairwise"].contains n && vs[0]? == some (rawInt _)) = true then _ else _) Q E s
           rw [if_neg (by intro h; rw [hn, Bool.false_and] at h; cases h)]
           exact wpAny_pure hQ))
noncomputable def Itl(K:Frag)(a:Addr):It:=
 ⟨fun i H=>∃xs x,SqL K H a xs/\xs[i]?=some x,fun i H x H'=>H'=H/\∀xs,SqL K H a xs->xs[i]?=some x,fun i H=>∃xs,SqL K H a xs/\xs.length<=i⟩
noncomputable def Itr(lo:Int)(n:Nat):It:=⟨fun i _=>i<n,fun i H x H'=>H'=H/\x=.int (lo+i),fun i _=>n<=i⟩
theorem mh{P:Program}{w:World}{K:Frag}{tg:Expr}(a it:Addr):Turn P w K tg (Itl K a) [it] it (fun i h=>h.IsListIter it a i) where
 mem:=by simp
 obj:=fun i h st b hb=>by
  have e:b=it:=by simpa using hb
  subst e;obtain⟨o,e,c,d⟩:=st;exact⟨o,e,fun v z=>by rw[d]at z;cases z⟩
 keep:=fun i h h' st k=>st.at fun o e=>k it (by simp) o e
 item:=by intro X hP hw hK hc i pins s σ H E I hf st hg;subst hP hw hK;obtain⟨xs,x,hq,hx⟩:=hg;obtain⟨its,rv,p,hz⟩:=I.list hq;obtain⟨u,hu,ru⟩:=rv.get hx;obtain⟨f0,f1,f2,f3,f4,f5⟩:=hf it (by simp);refine wpAny_pyNext_list_item st p.isList (x:=u) (by simpa using hu) fun h' st' sb=>?_;have I1:Inv X pins σ H {s with heap:=h'}:=I.turned (t':=s.toks) (fun b o hb e=>(sb.2 b hb).trans e) f0 f1 f3 f4 f5;obtain⟨o,e,c,d⟩:=id st';exact⟨u,rfl,oq (s:={s with heap:=h'}) e c d (by decide) ⟨x,H,I1,ru,⟨rfl,fun ys hy=>by rw[I.list_inj hy hq];exact hx⟩,st',fun b hb=>(hf b hb).1⟩⟩
 done:=by intro X hP hw hK hc i pins s σ H E I hf st hg;subst hP hw hK;obtain⟨xs,hq,hx⟩:=hg;obtain⟨its,rv,p,hz⟩:=I.list hq;obtain⟨f0,f1,f2,f3,f4,f5⟩:=hf it (by simp);have hl:=rv.length;exact wpAny_pyNext_list_end (I.ok.hd hc) st p.isList (by simp;omega) fun h' eb=>⟨rfl,I.turned (t':=s.toks) (fun b o hb e=>eb b o hb e) f0 f1 f3 f4 f5⟩
 self:=fun _ _ _ _ _ st h=>wpAny_pyIter_listiter st h
theorem ku{P:Program}{w:World}{K:Frag}{tg:Expr}(it:Addr)(lo:Int)(n:Nat):Turn P w K tg (Itr lo n) [it] it (fun i h=>IsRangeIter h it (lo+(i:Nat)*1) ((n:Int)-(i:Nat)) 1) where
 mem:=by simp
 obj:=fun i h st b hb=>by
  have e:b=it:=by simpa using hb
  subst e
  exact⟨_,st,fun v z=>by
   have z':Data.fields _=Data.cell v:=z
   cases z'⟩
 keep:=fun i h h' st k=>k it (by simp) _ st
 item:=by intro X hP hw hK hc i pins s σ H E I hf st hg;subst hP hw hK;obtain⟨f0,f1,f2,f3,f4,f5⟩:=hf it (by simp);have W:=Walks.range (prog:=X.prog) (w:=X.w) (I.ok.hd hc) it lo 1 n;refine W.item i s _ _ hg st fun v h' tk hv st' kk=>?_;obtain⟨t,rfl⟩:=hv;have I1:Inv X pins σ H {s with heap:=h',toks:=tk}:=I.turned (fun b o hb e=>kk b o (by simpa using hb) e) f0 f1 f3 f4 f5;refine⟨_,rfl,oq (s:={s with heap:=h',toks:=tk}) (n:="range_iterator") st' rfl rfl (by decide) ⟨.int (lo+i),H,I1,⟨t,?_⟩,⟨rfl,rfl⟩,st',fun b hb=>(hf b hb).1⟩⟩;rw[Int.mul_one]
 done:=by intro X hP hw hK hc i pins s σ H E I hf st hg;subst hP hw hK;obtain⟨f0,f1,f2,f3,f4,f5⟩:=hf it (by simp);exact wpAny_pyNext_range_end (I.ok.hd hc) st (by have:n<=i:=hg;omega) fun h' eb=>⟨rfl,I.turned (t':=s.toks) (fun b o hb e=>eb b o hb e) f0 f1 f3 f4 f5⟩
 self:=fun _ _ _ _ _ st h=>wpAny_pyIter_rangeiter st h
section
variable{X:Cx}{tg:Expr}
def sM(K:Frag)(tl:TE):TI:=fun σ H R=>tl σ H fun x H1=>∃a,x=.ref a/\(∃xs,SqL K H1 a xs)/\R (Itl K a) H1
theorem bV{l:Expr}{tl:TE}(hl:PE X l tl):PI X tg l (sM X.K tl):=by
 intro pins s σ H R I h;refine thn (hl pins s σ H _ I h) fun v s1 hPz=>?_;obtain⟨x,H1,I1,r1,q1⟩:=hPz;obtain⟨a,e,⟨xs,hq⟩,q⟩:=q1;subst e;cases r1;obtain⟨its,rv,p,hz⟩:=I1.list hq;refine wpAny_pyIter_list p.isList ?_;refine⟨s1.heap.objs.size,[s1.heap.objs.size],_,_,H1,rfl,I1.kept (t':=s1.toks) fun b o e=>tR _ e,mh a _,⟨_,um _ rfl,rfl,rfl⟩,fun b hb=>?_,q⟩;have e:b=s1.heap.objs.size:=by simpa using hb
 subst e;exact I1.fpOk (uc _) (I1.hok.fresh (uc _))
theorem jF{pins:List (Addr×Obj)}{σ:St}{H:Hp}{s:Shared}{R:It->Hp->Prop}{E:Value->Shared->Prop}{lo hi:Int}{t u v:Tok}{tk:Nat}(I:Inv X pins σ H s)(h1: -(2^62)<=lo)(h2:lo<2^62)(h3: -(2^62)<=hi)(h4:hi<2^62)
  (q:R (Itr lo (hi-lo).toNat) H):wpAny (model X.prog X.w) X.A (pyIter (.ref s.heap.objs.size)) (PIE X pins σ tg R) E {s with heap:=s.heap.push {cls:=.type "range",data:=.fields #[.int lo t,.int hi u,.int 1 v]},toks:=tk}:=by
 refine wpAny_pyIter_range (IsRange.new ..) (small_one h1 h2 h3 h4) ?_;have I1:Inv X pins σ H {s with heap:=s.heap.push {cls:=.type "range",data:=.fields #[.int lo t,.int hi u,.int 1 v]},toks:=tk}:=I.kept fun b o e=>tR _ e
 refine⟨(s.heap.push {cls:=.type "range",data:=.fields #[.int lo t,.int hi u,.int 1 v]}).objs.size,[(s.heap.push {cls:=.type "range",data:=.fields #[.int lo t,.int hi u,.int 1 v]}).objs.size],_,_,H,rfl,
  I1.kept (t':=tk) fun b o e=>tR _ e,ku _ lo (hi-lo).toNat,?_,fun b hb=>?_,q⟩
 ·have e1:lo+((0:Nat):Int)*1=lo:=by simp
  have e2:(((hi-lo).toNat:Nat):Int)-((0:Nat):Int)=Builtin.Range.rangeSize lo hi 1:=by rw[rangeSize_one];split<;>omega
  show IsRangeIter _ _ (lo+((0:Nat):Int)*1) ((((hi-lo).toNat:Nat):Int)-((0:Nat):Int)) 1;rw[e1,e2];exact um _ rfl
 ·have e:b=(s.heap.push {cls:=.type "range",data:=.fields #[.int lo t,.int hi u,.int 1 v]}).objs.size:=by simpa using hb
  subst e;exact I1.fpOk (uc _) (I1.hok.fresh (uc _))
def sL(ta:TA):TI:=fun σ H R=>ta σ H fun vs H1=>∃j:Int,vs=[.int j]/\ -(2^62)<=j/\j<2^62/\R (Itr 0 j.toNat) H1
def sJ(ta:TA):TI:=fun σ H R=>ta σ H fun vs H1=>∃i j:Int,vs=[.int i,.int j]/\(-(2^62)<=i/\i<2^62/\ -(2^62)<=j/\j<2^62)/\R (Itr i (j-i).toNat) H1
theorem c7{a:Expr}{ta:TA}{p pos:Pos}(hg:Gl X "range")(hm:X.mg "range"=none)(ha:PA X [a] ta)(hs:starEach [a] X.env=[(false,eval a X.env)]:=by rfl):PI X tg (.Call (.Name "range" p) [a] [] pos) (sL ta):=by
 intro pins s σ H R I h;refine Call_ (fw I hg hm boot_range (PyProof.Rows.callWith_type1 (thn (ha pos pins s σ H _ I h) fun us s1 hPz=>?_) hs rfl));obtain⟨vs,H1,I1,r1,q1⟩:=hPz;obtain⟨j,e,q1,q2,q⟩:=q1;subst e;cases r1 with
 |cons r rr=>cases rr;obtain⟨t,rfl⟩:=r;exact call_range_1 (jF I1 (by omega) (by omega) q1 q2 (by simpa using q))
theorem mH{a b:Expr}{ta:TA}{p pos:Pos}(hg:Gl X "range")(hm:X.mg "range"=none)(ha:PA X [a,b] ta)(hs:starEach [a,b] X.env=[(false,eval a X.env),(false,eval b X.env)]:=by rfl)(hs2:starEach [b] X.env=[(false,eval b X.env)]:=by rfl):
  PI X tg (.Call (.Name "range" p) [a,b] [] pos) (sJ ta):=by
 intro pins s σ H R I h;refine Call_ (fw I hg hm boot_range (PyProof.Rows.callWith_type1 (thn (ha pos pins s σ H _ I h) fun us s1 hPz=>?_) (by rw[hs,hs2]) (by rw[hs2];rfl)));obtain⟨vs,H1,I1,r1,q1⟩:=hPz;obtain⟨i,j,e,⟨q1,q2,q3,q4⟩,q⟩:=q1;subst e;cases r1 with
 |cons r rr=>
  cases rr with
  |cons r' rr=>cases rr;obtain⟨t,rfl⟩:=r;obtain⟨t',rfl⟩:=r';exact call_range_2 (jF I1 q1 q2 q3 q4 q)
def tq(wi:TI)(g:TG)(tb:TS):TS:=fun D σ H=>wi σ H fun J H1=>∃W:Nat->Nat->St->Hp->Prop,(∃m,W 0 m σ H1)/\∀i m σ H,W i m σ H->
 (J.stop i H/\D.nx σ H)\/(J.go i H/\∃N:St->Hp->Prop,(∀σ' H',N σ' H'->∃m',m'<m/\W (i+1) m' σ' H')/\∀x H',J.yld i H x H'->g x σ H' fun σ2 H2=>tb {D with nx:=N,ct:=N,bk:=D.nx} σ2 H2)
noncomputable def gn(fp:List Addr)(h:Heap):List (Addr×Obj):=fp.filterMap fun b=>(h.get? b).map fun o=>(b,o)
theorem dB{fp:List Addr}{h:Heap}{b:Addr}{o:Obj}(hb:b∈fp)(e:h.get? b=some o):(b,o)∈gn fp h:=List.mem_filterMap.mpr ⟨b,hb,by rw[e];rfl⟩
theorem mM{fp:List Addr}{h:Heap}{p:Addr×Obj}(hp:p∈gn fp h):p.1∈fp/\h.get? p.1=some p.2:=by
 obtain⟨b,hb,e⟩:=List.mem_filterMap.mp hp;cases q:h.get? b with
 |none=>rw[q]at e;cases e
 |some o=>rw[q]at e;have e':(b,o)=p:=vn e;subst e';exact⟨hb,q⟩
theorem Inv.pinned{pins:List (Addr×Obj)}{σ:St}{H:Hp}{s:Shared}{fp:List Addr}(I:Inv X pins σ H s)(hf:∀b∈fp,fE X pins H b)(ho:∀b∈fp,∃o,s.heap.get? b=some o/\∀v,o.data≠ .cell v):Inv X (pins++gn fp s.heap) σ H s:=
 I.pins_of fun p hp=>(ub.mp hp).elim (fun z=>I.pin p (ux _ z)) fun z=>by obtain⟨hb,e⟩:=mM z;obtain⟨f0,f1,f2,_⟩:=hf p.1 hb;obtain⟨o,e',d⟩:=ho p.1 hb;rw[e]at e';cases e';exact⟨e,f0,f1,f2,d⟩
theorem Inv.unpinned{pins pl:List (Addr×Obj)}{σ:St}{H:Hp}{s:Shared}(I:Inv X (pins++pl) σ H s):Inv X pins σ H s:=I.pins_of fun p hp=>I.pin p (ux _ (vj _ hp))
theorem bM{iter:Expr}{body:List Stmt}{wi:TI}{g:TG}{tb:TS}{pos:Pos}(hp:PassesOwn (model X.prog X.w) X.A X.env X.xe)(hc:X.calm=true)(hi:PI X tg iter wi)(hg:PG X tg g)(hb:PSs X body tb)
  (hs:∀x,foldedSetIterable iter X.env x=pure x:=by intro _;rfl):PS X (.For tg iter body [] pos) (tq wi g tb):=by
 intro pins s σ H D I h;refine wpAny_For (thn (hi pins s σ H _ I h) fun v s1 h1=>thn h1 fun itv s2 h2=>?_) hs;obtain⟨it,fp,tn,J,H2,e,I2,T,st2,f2,W,⟨m0,w0⟩,turn⟩:=h2;subst e;have stat:∀{H':Hp},(∀b∈fp,H' b=none)->∀b∈fp,fE X pins H' b:=fun hn b hb=>⟨hn b hb,(f2 b hb).2⟩;refine codeAny_forLoop_any (fun n s'=>∃i σ' H',Inv X pins σ' H' s'/\tn i s'.heap/\(∀b∈fp,H' b=none)/\W i n σ' H') ?_ m0 ⟨0,σ,H2,I2,st2,fun b hb=>(f2 b hb).1,w0⟩;rintro n s3 ⟨i,σ3,H3,I3,st3,fr3,w3⟩;rcases turn i n σ3 H3 w3 with⟨stop,qn⟩|⟨go,N,hN,step⟩
 ·refine wpAny_passesOwn hp (thn (T.done X rfl rfl rfl hc i pins s3 σ3 H3 X.xe I3 (stat fr3) st3 stop) fun r s4 ⟨hr,I4⟩=>?_);subst hr;exact wpAny_execs_nil ⟨σ3,H3,I4,qn⟩
 ·refine wpAny_passesOwn hp (thn (T.item X rfl rfl rfl hc i pins s3 σ3 H3 X.xe I3 (stat fr3) st3 go) fun r s4 hPz=>?_);obtain⟨u,hr,h4⟩:=hPz;subst hr;refine wpAny_passesOwn hp (thn h4 fun _ s5 hPz=>?_);obtain⟨x,H5,I5,r5,y5,st5,fr5⟩:=hPz;have I5':=I5.pinned (stat fr5) (T.obj _ _ st5);refine wpAny_passesOwn hp (thn (hg _ s5 σ3 H5 x u _ I5' r5 (step x H5 y5)) fun _ s6 hPz=>?_);obtain⟨σ6,H6,I6,q6⟩:=hPz;refine wpAny_passesOwn hp (thn (hb _ s6 σ6 H6 _ I6 q6) fun f s7 q7=>?_);have again:∀{σ7:St}{H7:Hp},Inv X (pins++gn fp s5.heap) σ7 H7 s7->N σ7 H7->∃m,m<n/\∃i σ' H',Inv X pins σ' H' s7/\tn i s7.heap/\(∀b∈fp,H' b=none)/\W i m σ' H':=fun {σ7 H7} I7 n7=>by
   obtain⟨m',hm,w7⟩:=hN σ7 H7 n7;refine⟨m',hm,i+1,σ7,H7,I7.unpinned,T.keep _ _ _ st5 fun b hb o e=>(I7.pin (b,o) (ux _ (ux _ (dB hb e)))).1,fun b hb=>?_,w7⟩;obtain⟨o,e,d⟩:=T.obj _ _ st5 b hb;exact(I7.pin (b,o) (ux _ (ux _ (dB hb e)))).2.1
  cases f with
  |next=>obtain⟨σ7,H7,I7,n7⟩:=q7;exact again I7 n7
  |cont=>obtain⟨σ7,H7,I7,n7⟩:=q7;exact again I7 n7
  |brk=>obtain⟨σ7,H7,I7,q7⟩:=q7;exact⟨σ7,H7,I7.unpinned,q7⟩
  |ret v=>obtain⟨x7,σ7,H7,I7,r7,q7⟩:=q7;exact⟨x7,σ7,H7,I7.unpinned,r7,q7⟩
end
theorem bW{K:Frag}{a:Addr}{xs:List V}{g:TG}{tb:TS}{D:Ends}{σ:St}{H:Hp}(Pv:Nat->St->Hp->Prop)(h0:Pv 0 σ H)(hl:∀i σ H,i<=xs.length->Pv i σ H->SqL K H a xs)
  (hs:∀i x σ H,xs[i]?=some x->Pv i σ H->g x σ H fun σ2 H2=>tb {D with nx:=Pv (i+1),ct:=Pv (i+1),bk:=D.nx} σ2 H2) (hd:∀σ H,Pv xs.length σ H->D.nx σ H):
  ∃W:Nat->Nat->St->Hp->Prop,(∃m,W 0 m σ H)/\∀i m σ H,W i m σ H->
   ((Itl K a).stop i H/\D.nx σ H)\/((Itl K a).go i H/\∃N:St->Hp->Prop,(∀σ' H',N σ' H'->∃m',m'<m/\W (i+1) m' σ' H')/\∀x H',(Itl K a).yld i H x H'->g x σ H' fun σ2 H2=>tb {D with nx:=N,ct:=N,bk:=D.nx} σ2 H2):=by
 refine⟨fun i m σ H=>m=xs.length-i/\i<=xs.length/\Pv i σ H,⟨xs.length,by simp,uJ _,h0⟩,?_⟩;rintro i m σ H ⟨rfl,hi,p⟩;have q:=hl i σ H hi p;by_cases hlt:i<xs.length
 ·refine .inr ⟨⟨xs,xs[i],q,by simp[hlt]⟩,Pv (i+1),fun σ' H' p'=>⟨xs.length-(i+1),by omega,rfl,hlt,p'⟩,fun x H' y=>?_⟩;obtain⟨e,y⟩:=y;subst e;exact hs i x σ _ (y xs q) p
 ·have e:i=xs.length:=by omega
  subst e;exact .inl ⟨⟨xs,q,uc _⟩,hd σ H p⟩
theorem d8{lo:Int}{n:Nat}{g:TG}{tb:TS}{D:Ends}{σ:St}{H:Hp}(Pv:Nat->St->Hp->Prop)(h0:Pv 0 σ H)
  (hs:∀i σ H,i<n->Pv i σ H->g (.int (lo+i)) σ H fun σ2 H2=>tb {D with nx:=Pv (i+1),ct:=Pv (i+1),bk:=D.nx} σ2 H2) (hd:∀σ H,Pv n σ H->D.nx σ H):
  ∃W:Nat->Nat->St->Hp->Prop,(∃m,W 0 m σ H)/\∀i m σ H,W i m σ H->
   ((Itr lo n).stop i H/\D.nx σ H)\/((Itr lo n).go i H/\∃N:St->Hp->Prop,(∀σ' H',N σ' H'->∃m',m'<m/\W (i+1) m' σ' H')/\∀x H',(Itr lo n).yld i H x H'->g x σ H' fun σ2 H2=>tb {D with nx:=N,ct:=N,bk:=D.nx} σ2 H2):=by
 refine⟨fun i m σ H=>m=n-i/\i<=n/\Pv i σ H,⟨n,by simp,uJ _,h0⟩,?_⟩;rintro i m σ H ⟨rfl,hi,p⟩;by_cases hlt:i<n
 ·refine .inr ⟨hlt,Pv (i+1),fun σ' H' p'=>⟨n-(i+1),by omega,rfl,hlt,p'⟩,fun x H' y=>?_⟩;obtain⟨e,y⟩:=y;subst e y;exact hs i σ _ hlt p
 ·have e:i=n:=by omega
  subst e;exact .inl ⟨uc _,hd σ H p⟩
noncomputable abbrev R2:=V->V->Hp->VK->Prop
def OpR(X:Cx)(f:Value->Value->Sem Value)(r:R2):Prop:=
 ∀(pins:List (Addr×Obj))(s:Shared)(σ:St)(H:Hp)(x y:V)(v u:Value)(Q:VK),Inv X pins σ H s->RelV x v->RelV y u->r x y H Q->
  wpAny (model X.prog X.w) X.A (f v u) (EP X pins σ Q) X.xe s
def UnR(X:Cx)(f:Value->Sem Value)(r:V->Hp->VK->Prop):Prop:=
 ∀(pins:List (Addr×Obj))(s:Shared)(σ:St)(H:Hp)(x:V)(v:Value)(Q:VK),Inv X pins σ H s->RelV x v->r x H Q->
  wpAny (model X.prog X.w) X.A (f v) (EP X pins σ Q) X.xe s
def dJ(X:Cx)(f:Value)(r:List V->Hp->VK->Prop):Prop:=
 ∀(pins:List (Addr×Obj))(s:Shared)(σ:St)(H:Hp)(xs:List V)(us:List Value)(Q:VK),Inv X pins σ H s->Vals xs us->r xs H Q->
  wpAny (model X.prog X.w) X.A (call f us) (EP X pins σ Q) X.xe s
def tOp(r:R2)(ta tb:TE):TE:=fun σ H Q=>ta σ H fun x H1=>tb σ H1 fun y H2=>r x y H2 Q
def tUn(r:V->Hp->VK->Prop)(ta:TE):TE:=fun σ H Q=>ta σ H fun x H1=>r x H1 Q
noncomputable def rI(C:Int->Int->Prop)(g:Int->Int->V):R2:=fun x y H Q=>∃i j,x=.int i/\y=.int j/\C i j/\Q (g i j) H
noncomputable def rI0(g:Int->Int->V):R2:=fun x y H Q=>∃i j,x=.int i/\y=.int j/\Q (g i j) H
def rU(g:Int->V):V->Hp->VK->Prop:=fun x H Q=>∃i,x=.int i/\Q (g i) H
section
variable{X:Cx}{a b c:Expr}{ta tb tc:TE}{pos:Pos}
theorem rJ(ha:PE X a ta)(hb:PE X b tb){pins:List (Addr×Obj)}{s:Shared}{σ:St}{H:Hp}{R:V->V->Hp->Prop}(I:Inv X pins σ H s)
  (h:ta σ H fun x H1=>tb σ H1 fun y H2=>R x y H2) {Q:Value->Shared->Prop} {f:Value->Value->Sem Value}
  (hf:∀v u s2 x y H2,Inv X pins σ H2 s2->RelV x v->RelV y u->R x y H2->wpAny (model X.prog X.w) X.A (f v u) Q X.xe s2):
  wpAny (model X.prog X.w) X.A (eval a X.env) (fun v s₁=>wpAny (model X.prog X.w) X.A (eval b X.env) (fun u s₂=>wpAny (model X.prog X.w) X.A (f v u) Q X.xe s₂) X.xe s₁) X.xe s:=by
 refine thn (ha pins s σ H _ I h) fun v s1 hPz=>?_;obtain⟨x,H1,I1,r1,q1⟩:=hPz;refine thn (hb pins s1 σ H1 _ I1 q1) fun u s2 hPz=>?_;obtain⟨y,H2,I2,r2,q2⟩:=hPz;exact hf v u s2 x y H2 I2 r1 r2 q2
theorem ai{op:Operator}{r:R2}(ho:OpR X (binaryOp op) r)(ha:PE X a ta)(hb:PE X b tb):PE X (.BinOp a op b pos) (tOp r ta tb):=by intro pins s σ H Q I h;exact wpAny_BinOp (rJ ha hb I h fun v u s2 x y H2 I2 rx ry q=>ho pins s2 σ H2 x y v u Q I2 rx ry q)
theorem sr{op:UnaryOp}{r:V->Hp->VK->Prop}(ho:UnR X (unaryOp op) r)(ha:PE X a ta):PE X (.UnaryOp op a pos) (tUn r ta):=by intro pins s σ H Q I h;exact UnaryOp_ (thn (ha pins s σ H _ I h) fun v s1 hPz=>L2.ep3 hPz fun x H1 I1 r1 q1=>ho pins s1 σ H1 x v Q I1 r1 q1)
theorem opI{f:Value->Value->Sem Value}{C:Int->Int->Prop}{g:Int->Int->Int}
  (rule:∀(i j:Int)(t u:Tok)(s:Shared)(Q:Value->Shared->Prop)(E:Value->Shared->Prop),C i j->Q (.int (g i j) s.toks) {s with toks:=s.toks+1}->wpAny (model X.prog X.w) X.A (f (.int i t) (.int j u)) Q E s):
  OpR X f (rI C fun i j=>.int (g i j)):=by
 intro pins s σ H x y v u Q I rx ry h;obtain⟨i,j,rfl,rfl,hc,q⟩:=h;obtain⟨t,rfl⟩:=rx;obtain⟨t',rfl⟩:=ry;exact rule i j t t' s _ _ hc ⟨.int (g i j),H,I.tok _,⟨_,rfl⟩,q⟩
theorem nO{f:Value->Value->Sem Value}{g:Int->Int->Int}
  (rule:∀(i j:Int)(t u:Tok)(s:Shared)(Q:Value->Shared->Prop)(E:Value->Shared->Prop),Q (.int (g i j) s.toks) {s with toks:=s.toks+1}->wpAny (model X.prog X.w) X.A (f (.int i t) (.int j u)) Q E s):
  OpR X f (rI0 fun i j=>.int (g i j)):=by
 intro pins s σ H x y v u Q I rx ry h;obtain⟨i,j,rfl,rfl,q⟩:=h;obtain⟨t,rfl⟩:=rx;obtain⟨t',rfl⟩:=ry;exact rule i j t t' s _ _ ⟨.int (g i j),H,I.tok _,⟨_,rfl⟩,q⟩
theorem qW{f:Value->Value->Sem Value}{g:Int->Int->Bool}
  (rule:∀(i j:Int)(t u:Tok)(s:Shared)(Q:Value->Shared->Prop)(E:Value->Shared->Prop),Q (.bool (g i j)) s->wpAny (model X.prog X.w) X.A (f (.int i t) (.int j u)) Q E s):
  OpR X f (rI0 fun i j=>.bl (g i j)):=by
 intro pins s σ H x y v u Q I rx ry h;obtain⟨i,j,rfl,rfl,q⟩:=h;obtain⟨t,rfl⟩:=rx;obtain⟨t',rfl⟩:=ry;exact rule i j t t' s _ _ ⟨.bl (g i j),H,I,rfl,q⟩
def tM(i j:Int):Prop:=0<j/\j<1073741824
def sV(i j:Int):Prop:=0<=j/\j<=1000000/\i.natAbs<2^64
def rN(i j:Int):Prop:=(-(2^64)<i/\i<2^64)\/(-(2^64)<j/\j<2^64)
theorem rN.ok{i j:Int}(h:rN i j):IntMulOk i j:=by
 rcases h with⟨h1,h2⟩|⟨h1,h2⟩
 ·exact .of_left (intBits_le_64 h1 h2)
 ·exact .of_right (intBits_le_64 h1 h2)
theorem two_pow_nn(k:Nat):(0:Int)<=2^k:=by rw[two_pow_cast];exact Int.natCast_nonneg _
theorem aL:OpR X (binaryOp .Add) (rI0 fun i j=>.int (i+j)):=nO fun _ _ _ _ _ _ _ q=>add_int q
theorem a7:OpR X (binaryOp .Sub) (rI0 fun i j=>.int (i-j)):=nO fun _ _ _ _ _ _ _ q=>sub_int q
theorem cY:OpR X (binaryOp .Mult) (rI rN fun i j=>.int (i*j)):=opI fun _ _ _ _ _ _ _ hc q=>mul_int q hc.ok
theorem aQ:OpR X (binaryOp .FloorDiv) (rI tM fun i j=>.int (i / j)):=opI fun i j _ _ _ _ _ hc q=>by have h1:(0:Int)<j:=hc.1;have h2:j<1073741824:=hc.2;exact floordiv_int (by omega) (by rw[Int.fdiv_eq_ediv_of_nonneg i (by omega)];exact q) (.inl (PyProof.noPylong_small (by omega)))
theorem aI:OpR X (binaryOp .Mod) (rI (fun _ j=>0<j) fun i j=>.int (i % j)):=opI fun i j _ _ _ _ _ hc q=>by have h1:(0:Int)<j:=hc;exact mod_int' (by omega) (by rw[Int.fmod_eq_emod_of_nonneg i (by omega)];exact q)
theorem nK:OpR X (binaryOp .Pow) (rI sV fun i j=>.int (i^j.toNat)):=opI fun _ _ _ _ _ _ _ hc q=>pow_int_small hc.1 hc.2.1 hc.2.2 q
theorem dz:OpR X (binaryOp .LShift) (rI sV fun i j=>.int (i*2^j.toNat)):=opI fun _ _ _ _ _ _ _ hc q=>lshift_int_small hc.1 hc.2.1 hc.2.2 q
theorem qV:OpR X (binaryOp .RShift) (rI (fun _ j=>0<=j) fun i j=>.int (i / 2^j.toNat)):=opI fun i j _ _ _ _ _ hc q=>rshift_int hc (by rw[Int.fdiv_eq_ediv_of_nonneg i (two_pow_nn _)];exact q)
theorem nN:OpR X (binaryOp .BitAnd) (rI0 fun i j=>.int (Builtin.bitAnd i j)):=nO fun _ _ _ _ _ _ _ q=>and_int q
theorem qw:OpR X (binaryOp .BitOr) (rI0 fun i j=>.int (Builtin.bitOr i j)):=nO fun _ _ _ _ _ _ _ q=>or_int q
theorem nJ:OpR X (binaryOp .BitXor) (rI0 fun i j=>.int (Builtin.bitXor i j)):=nO fun _ _ _ _ _ _ _ q=>xor_int q
theorem unI{f:Value->Sem Value}{g:Int->Int}
  (rule:∀(i:Int)(t:Tok)(s:Shared)(Q:Value->Shared->Prop)(E:Value->Shared->Prop),Q (.int (g i) s.toks) {s with toks:=s.toks+1}->wpAny (model X.prog X.w) X.A (f (.int i t)) Q E s):
  UnR X f (rU fun i=>.int (g i)):=by
 intro pins s σ H x v Q I rx h;obtain⟨i,rfl,q⟩:=h;obtain⟨t,rfl⟩:=rx;exact rule i t s _ _ ⟨.int (g i),H,I.tok _,⟨_,rfl⟩,q⟩
theorem qF:UnR X (unaryOp .USub) (rU fun i=>.int (-i)):=unI fun _ _ _ _ _ q=>neg_int q
end
noncomputable def r8:V->V->Bool
 | .non,.non=>true| .non,.int _=>true| .int _,.non=>true| .non,.bl _=>true| .bl _,.non=>true| .non,.str _=>true| .str _,.non=>true
 | .int _,.int _=>true| .bl _,.bl _=>true| .str _,.str _=>true| .byt _,.byt _=>true
 | .int _,.str _=>true| .str _,.int _=>true| .bl _,.str _=>true| .str _,.bl _=>true
 |_,_=>false
noncomputable def rEq:R2:=fun x y H Q=>r8 x y=true/\Q (.bl (decide (x=y))) H
noncomputable def rNe:R2:=fun x y H Q=>r8 x y=true/\Q (.bl (!decide (x=y))) H
theorem lV{i j:Int}:decide (V.int i=V.int j)=(i==j):=by rw[uT];simp
theorem oA{i j:Bool}:decide (V.bl i=V.bl j)=(i==j):=by rw[uT];simp
theorem lS{i j:Str}:decide (V.str i=V.str j)=(i==j):=by rw[uT];simp
theorem lX{i j:Array UInt8}:decide (V.byt i=V.byt j)=(i.toList==j.toList):=by rw[uT];cases i;cases j;simp
section
variable{X:Cx}{a b c:Expr}{ta tb tc:TE}{pos:Pos}
theorem aM{pins:List (Addr×Obj)}{σ:St}{H:Hp}{s:Shared}{Q:VK}{k k':Bool}(I:Inv X pins σ H s)(q:Q (.bl k) H)(e:k=k'):EP X pins σ Q (.bool k') s:=by subst e;exact⟨.bl k,H,I,rfl,q⟩
theorem bS:OpR X (compareOp .Eq) rEq:=by
 intro pins s σ H x y v u Q I rx ry h;obtain⟨hs,q⟩:=h;cases x with
 |non=>
  cases rx;cases y with
  |non=>cases ry;exact PySem.EqNone.eq_none_none (aM I q (by simp))
  |bl j=>cases ry;exact PySem.EqNone.eq_none_bool (aM I q (by simp))
  |int j=>obtain⟨t',rfl⟩:=ry;exact PySem.EqNone.eq_none_int (aM I q (by simp))
  |str j=>obtain⟨t',rfl⟩:=ry;exact PySem.EqNone.eq_none_str (aM I q (by simp))
  |_=>exact absurd (show false=true from hs) tZ
 |bl i=>
  cases rx;cases y with
  |non=>cases ry;exact PySem.EqNone.eq_bool_none (aM I q (by simp))
  |bl j=>cases ry;exact eq_bool (aM I q oA)
  |str j=>obtain⟨t',rfl⟩:=ry;exact PySem.EqMixed.eq_bool_str (aM I q (by simp))
  |_=>exact absurd (show false=true from hs) tZ
 |int i=>
  obtain⟨t,rfl⟩:=rx;cases y with
  |non=>cases ry;exact PySem.EqNone.eq_int_none (aM I q (by simp))
  |int j=>obtain⟨t',rfl⟩:=ry;exact eq_int (aM I q lV)
  |str j=>obtain⟨t',rfl⟩:=ry;exact PySem.EqMixed.eq_int_str (aM I q (by simp))
  |_=>exact absurd (show false=true from hs) tZ
 |str i=>
  obtain⟨t,rfl⟩:=rx;cases y with
  |non=>cases ry;exact PySem.EqNone.eq_str_none (aM I q (by simp))
  |bl j=>cases ry;exact PySem.EqMixed.eq_str_bool (aM I q (by simp))
  |int j=>obtain⟨t',rfl⟩:=ry;exact PySem.EqMixed.eq_str_int (aM I q (by simp))
  |str j=>obtain⟨t',rfl⟩:=ry;exact eq_str (aM I q lS)
  |_=>exact absurd (show false=true from hs) tZ
 |byt i=>
  obtain⟨t,rfl⟩:=rx;cases y with
  |byt j=>obtain⟨t',rfl⟩:=ry;exact PySem.W.eq_bytes (aM I q lX)
  |_=>exact absurd (show false=true from hs) tZ
 |_=>cases y<;>exact absurd (show false=true from hs) tZ
theorem lJ:OpR X (compareOp .NotEq) rNe:=by
 intro pins s σ H x y v u Q I rx ry h;obtain⟨hs,q⟩:=h;cases x with
 |non=>
  cases rx;cases y with
  |non=>cases ry;exact PySem.EqNone.ne_none_none (aM I q (by simp))
  |bl j=>cases ry;exact PySem.EqNone.ne_none_bool (aM I q (by simp))
  |int j=>obtain⟨t',rfl⟩:=ry;exact PySem.EqNone.ne_none_int (aM I q (by simp))
  |str j=>obtain⟨t',rfl⟩:=ry;exact PySem.EqNone.ne_none_str (aM I q (by simp))
  |_=>exact absurd (show false=true from hs) tZ
 |bl i=>
  cases rx;cases y with
  |non=>cases ry;exact PySem.EqNone.ne_bool_none (aM I q (by simp))
  |bl j=>cases ry;exact ne_bool (aM I q (congrArg not oA))
  |str j=>obtain⟨t',rfl⟩:=ry;exact PySem.EqMixed.ne_bool_str (aM I q (by simp))
  |_=>exact absurd (show false=true from hs) tZ
 |int i=>
  obtain⟨t,rfl⟩:=rx;cases y with
  |non=>cases ry;exact PySem.EqNone.ne_int_none (aM I q (by simp))
  |int j=>obtain⟨t',rfl⟩:=ry;exact ne_int (aM I q (congrArg not lV))
  |str j=>obtain⟨t',rfl⟩:=ry;exact PySem.EqMixed.ne_int_str (aM I q (by simp))
  |_=>exact absurd (show false=true from hs) tZ
 |str i=>
  obtain⟨t,rfl⟩:=rx;cases y with
  |non=>cases ry;exact PySem.EqNone.ne_str_none (aM I q (by simp))
  |bl j=>cases ry;exact PySem.EqMixed.ne_str_bool (aM I q (by simp))
  |int j=>obtain⟨t',rfl⟩:=ry;exact PySem.EqMixed.ne_str_int (aM I q (by simp))
  |str j=>obtain⟨t',rfl⟩:=ry;exact ne_str (aM I q (congrArg not lS))
  |_=>exact absurd (show false=true from hs) tZ
 |byt i=>
  obtain⟨t,rfl⟩:=rx;cases y with
  |byt j=>obtain⟨t',rfl⟩:=ry;exact PySem.W.ne_bytes (aM I q (congrArg not lX))
  |_=>exact absurd (show false=true from hs) tZ
 |_=>cases y<;>exact absurd (show false=true from hs) tZ
theorem nL:OpR X (compareOp .Lt) (rI0 fun i j=>.bl (decide (i<j))):=qW fun _ _ _ _ _ _ _ q=>lt_int q
theorem qx:OpR X (compareOp .LtE) (rI0 fun i j=>.bl (decide (i<=j))):=qW fun _ _ _ _ _ _ _ q=>le_int q
theorem qy:OpR X (compareOp .GtE) (rI0 fun i j=>.bl (decide (j<=i))):=qW fun _ _ _ _ _ _ _ q=>ge_int q
theorem aJ(b:Expr){op:CmpOp}(h:op≠ .In:=by decide)(h2:op≠ .NotIn:=by decide):behindInMarks op b=false:=by
 have e1:(op==CmpOp.In)=false:=by cases op<;>first|rfl|exact absurd rfl h
 have e2:(op==CmpOp.NotIn)=false:=by cases op<;>first|rfl|exact absurd rfl h2
 cases b<;>simp[behindInMarks,e1,e2]
theorem b9{op:CmpOp}{r:R2}(ho:OpR X (compareOp op) r)(ha:PE X a ta)(hb:PE X b tb)(hm:behindInMarks op b=false):PE X (.Compare a [op] [b] pos) (tOp r ta tb):=by intro pins s σ H Q I h;exact wpAny_Compare1 (rJ ha hb I h fun v u s2 x y H2 I2 rx ry q=>ho pins s2 σ H2 x y v u Q I2 rx ry q) hm
def rR(t:TE):TT:=fun σ H Q=>t σ H fun x H'=>∃k,x=.bl k/\Q k H'
theorem aP{op:CmpOp}{r:R2}(ho:OpR X (compareOp op) r)(ha:PE X a ta)(hb:PE X b tb)(hm:behindInMarks op b=false):PT X (.Compare a [op] [b] pos) (rR (tOp r ta tb)):=by
 intro pins s σ H Q I h
 refine wpAny_isTrue_Compare1 (thn (ha pins s σ H _ I h) fun v s1 hPz=>L2.ep3 hPz fun x H1 I1 r1 q1=>thn (hb pins s1 σ H1 _ I1 q1) fun u s2 ⟨y,H2,I2,r2,q2⟩=>thn (ho pins s2 σ H2 x y v u _ I2 r1 r2 q2) fun c s3 ⟨z,H3,I3,r3,k,e,q3⟩=>?_) hm
 subst e;cases r3;exact vy ⟨H3,I3,q3⟩
def qI(r r':R2)(ta tb tc:TE):TE:=fun σ H Q=>ta σ H fun x H1=>tb σ H1 fun y H2=>r x y H2 fun z H3=>∃k,z=.bl k/\
 (if k=true then tc σ H3 fun w' H4=>r' y w' H4 Q else Q (.bl false) H3)
theorem jM{op op':CmpOp}{r r':R2}(ho:OpR X (compareOp op) r)(ho':OpR X (compareOp op') r')(ha:PE X a ta)(hb:PE X b tb)(hc:PE X c tc)
  (hm:lastMarks [op,op'] [b,c]=false:=by with_unfolding_all rfl):PE X (.Compare a [op,op'] [b,c] pos) (qI r r' ta tb tc):=by
 intro pins s σ H Q I h
 refine Compare_chain (thn (ha pins s σ H _ I h) fun v s1 hPz=>L2.ep3 hPz fun x H1 I1 r1 q1=>chain_link (thn (hb pins s1 σ H1 _ I1 q1) fun u s2 ⟨y,H2,I2,r2,q2⟩=>thn (ho pins s2 σ H2 x y v u _ I2 r1 r2 q2) fun d s3 ⟨z,H3,I3,r3,k,e,q3⟩=>?_)) hm
 subst e;cases r3;refine vy ?_;cases k with
 |false=>exact ite_ff ⟨.bl false,H3,I3,rfl,q3⟩
 |true=>exact ite_tt (chain_last (thn (hc pins s3 σ H3 _ I3 q3) fun w' s4 ⟨z',H4,I4,r4,q4⟩=>ho' pins s4 σ H4 y z' u w' Q I4 r2 r4 q4))
theorem kI:(sizeLine:Nat)<2^63:=by rw[vm];decide
theorem vals1{x:V}{us:List Value}(r:Vals [x] us):∃u,us=[u]/\RelV x u:=by
 cases r with
 |cons r1 r2=>cases r2;exact⟨_,rfl,r1⟩
theorem vals2{x y:V}{us:List Value}(r:Vals [x,y] us):∃u w',us=[u,w']/\RelV x u/\RelV y w':=by
 cases r with
 |cons r1 r2=>
  cases r2 with
  |cons r3 r4=>cases r4;exact⟨_,_,rfl,r1,r3⟩
theorem m7(hc:X.calm=true):dJ X (.builtin "max") (fun xs H Q=>∃i j,xs=[.int i,.int j]/\Q (.int (if j>i then j else i)) H):=by
 intro pins s σ H xs us Q I r h;obtain⟨i,j,rfl,q⟩:=h;obtain⟨u,w',rfl,⟨t,rfl⟩,⟨t',rfl⟩⟩:=vals2 r;refine max_two_ints (I.ok.hd hc) fun h' tk k=>⟨_,H,I.kept k,?_,q⟩;by_cases hj:j>i
 ·rw[tU hj,tU hj];exact⟨_,rfl⟩
 ·rw[tV hj,tV hj];exact⟨_,rfl⟩
theorem m5(hc:X.calm=true):dJ X (.builtin "min") (fun xs H Q=>∃i j,xs=[.int i,.int j]/\Q (.int (if j<i then j else i)) H):=by
 intro pins s σ H xs us Q I r h;obtain⟨i,j,rfl,q⟩:=h;obtain⟨u,w',rfl,⟨t,rfl⟩,⟨t',rfl⟩⟩:=vals2 r;refine min_two_ints (I.ok.hd hc) fun h' tk k=>⟨_,H,I.kept k,?_,q⟩;by_cases hj:j<i
 ·rw[tU hj,tU hj];exact⟨_,rfl⟩
 ·rw[tV hj,tV hj];exact⟨_,rfl⟩
theorem ix:dJ X (.type "int") (fun xs H Q=>(∃i,xs=[.int i]/\Q (.int i) H)\/∃k,xs=[.bl k]/\Q (.int (if k then 1 else 0)) H):=by
 intro pins s σ H xs us Q I r h;rcases h with⟨i,rfl,q⟩|⟨k,rfl,q⟩
 ·obtain⟨u,rfl,t,rfl⟩:=vals1 r;exact call_int_int ⟨.int i,H,I,⟨_,rfl⟩,q⟩
 ·obtain⟨u,rfl,r1⟩:=vals1 r;cases r1;exact call_int_bool ⟨.int (if k then 1 else 0),H,I.tok _,⟨_,rfl⟩,q⟩
end
structure rM(h:Heap)(x dx C:Addr)(mA:Str->Option Value):Prop where
 obj:h.get? x=some (PySem.W.instObj C dx)
 ns:h.Ns1 dx mA
 ne:dx≠x
theorem mQ{h:Heap}{dx:Addr}{mA:Str->Option Value}(n:h.Ns1 dx mA):∃od,h.get? dx=some od/\∀name,PySem.W.lookIn name od=some (mA name):=by
 obtain⟨o,es,ep,ho,hd,hk,_,hm⟩:=n;refine⟨o,ho,fun name=>?_⟩;have e:=hm name;unfold nsFind findBy at e;rw[<-Array.find?_toList]at e;unfold PySem.W.lookIn;rw[hd];dsimp only;split
 ·rename_i y q;rw[q]at e;exact congrArg some e
 ·rename_i q;rw[q]at e;have a:es.toList.any (·.refKey)=false:=by
   rw[List.any_eq_false];intro y hy;obtain⟨z,t,hkey⟩:=hk y (Array.mem_toList_iff.mp hy);simp[DictEntry.refKey,hkey]
  have a':¬es.toList.any (·.refKey)=true:=by rw[a];exact tZ
  rw[tV a'];exact congrArg some e
theorem rM.look{h:Heap}{x dx C:Addr}{mA:Str->Option Value}(I:rM h x dx C mA):∃od,PySem.W.InstAt h x (PySem.W.instObj C dx) C (some od)/\∀name,PySem.W.lookIn name od=some (mA name):=
 let ⟨od,ho,hl⟩:=mQ I.ns
 ⟨od,⟨I.obj,rfl,rfl,ho⟩,hl⟩
section
variable{P:Program}{w:World}{H H':Hp}{h h':Heap}{a C dx:Addr}{fs fs':List (Str×V)}
theorem p7(hok:HOk P w H h)(e:H a=some (.ins C dx fs)):∃mA,rM h a dx C mA/\(∀f,rL (fs.lookup f) (mA f))/\PySem.Within mA (fs.map (·.1))/\fs.length<=1000/\H dx=some (.own a):=by obtain⟨d,z,ne,ob,mA,n,r,q⟩:=(show bE P w H h a (.ins C dx fs)from hok a _ e);exact⟨mA,⟨ob,n,ne⟩,r,q,z,d⟩
end
structure Cls(K:Frag)(C:Addr):Prop where
 pg:PySem.W.plainGet K C Str.empty=true
 hd:PySem.W.hasDictIn K C=true
 po:PySem.W.plainOver K C=true
 sa:PySem.W.findIn K (.ref C) "__setattr__"=some (some (.builtin "object.__setattr__"))
theorem Cls.get{K:Frag}{C:Addr}(c:Cls K C)(f:Str):PySem.W.plainGet K C f=true:=c.pg
section
variable{X:Cx}{pins:List (Addr×Obj)}{σ:St}{H:Hp}{s:Shared}{A:Around}{E:Value->Shared->Prop}{Q:Value->Shared->Prop}{c:Value}{b:Bool}
inductive dF(K:Frag)(H:Hp):V->Value->Prop where
 |non:dF K H .non (.type "NoneType")
 |bl (x:Bool):dF K H (.bl x) (.type "bool")
 |int (i:Int):dF K H (.int i) (.type "int")
 |str (x:Str):dF K H (.str x) (.type "str")
 |flt (x:UInt64):dF K H (.flt x) (.type "float")
 |lst {a:Addr} {xs:List V} (e:H a=some (.lst xs)):dF K H (.ref a) (.type "list")
 |frz {a:Addr} {o:Obj} {xs:List V} (e:H a=some (.frz o (.lst xs))):dF K H (.ref a) (.type "list")
 |tup {a:Addr} {xs:List V} (e:H a=some (.tup xs)):dF K H (.ref a) (.type "tuple")
 |dK {a:Addr} {kvs:List (Key×V)} (e:H a=some (.dK kvs)):dF K H (.ref a) (.type "dict")
 |dT {a:Addr} {kvs:List (List Key×V)} (e:H a=some (.dT kvs)):dF K H (.ref a) (.type "dict")
 |ins {a C dx:Addr} {fs:List (Str×V)} (e:H a=some (.ins C dx fs)) (cl:Cls K C) (ha:PySem.W.findIn K (.ref C) "__class__"=some (some (.builtin "object.__class__")))
  (hn:PySem.W.specialIn K (.builtin "object.__class__") "__get__"=some (some (.builtin "getset_descriptor.__get__"))) (htk:PySem.W.takesIn K (.builtin "object.__class__")=some true)
  (hm:PySem.W.mroIn K C (.type "object")=some true):dF K H (.ref a) (.ref C)
theorem mV{x:V}{u t:Value}(I:Inv X pins σ H s)(rx:RelV x u)(ty:dF X.K H x t)(e:kitOne X.K t c=some b)(h:∀tk,Q (.bool b) {s with toks:=tk}):
  wpAny (model X.prog X.w) A (call (.builtin "isinstance") [u,c]) Q E s:=by
 cases ty with
 |non=>cases (show u=Value.none from rx);exact vi PySem.W.kitx_none I.kIn True.intro e (fun z=>nomatch z) h
 |bl y=>cases (show u=Value.bool y from rx);exact vi PySem.W.kitx_bool I.kIn True.intro e (fun z=>nomatch z) h
 |int i=>obtain⟨t,q⟩:=(show ∃t,u=Value.int i t from rx);cases q;exact vi PySem.W.kitx_int I.kIn True.intro e (fun z=>nomatch z) h
 |str y=>obtain⟨t,q⟩:=(show ∃t,u=Value.str y t from rx);cases q;exact vi PySem.W.kitx_str I.kIn True.intro e (fun z=>nomatch z) h
 |flt y=>obtain⟨t,q⟩:=(show ∃t,u=Value.float y t from rx);cases q;exact vi PySem.W.kitx_float I.kIn True.intro e (fun z=>nomatch z) h
 | @lst a xs ea=>cases (show u=Value.ref a from rx);obtain⟨_,_,n,_,h1⟩:=(show bE X.prog X.w H s.heap a (.lst xs)from I.hok a _ ea);exact vi PySem.W.kitx_list I.kIn ⟨_,h1,rfl⟩ e (fun z=>nomatch z) h
 | @frz a ob xs ea=>cases (show u=Value.ref a from rx);obtain⟨_,_,_,n,_,h1⟩:=(show bE X.prog X.w H s.heap a (.frz ob (.lst xs))from I.hok a _ ea);exact vi PySem.W.kitx_list I.kIn ⟨_,h1,rfl⟩ e (fun z=>nomatch z) h
 | @tup a xs ea=>cases (show u=Value.ref a from rx);obtain⟨_,_,_,p⟩:=(show bE X.prog X.w H s.heap a (.tup xs)from I.hok a _ ea);obtain⟨o,h1,h2,_⟩:=p;exact vi PySem.W.kitx_tuple I.kIn ⟨o,h1,h2⟩ e (fun z=>nomatch z) h
 | @dK a kvs ea=>cases (show u=Value.ref a from rx);obtain⟨_,_,vs,_,p⟩:=(show bE X.prog X.w H s.heap a (.dK kvs)from I.hok a _ ea);obtain⟨o,es,ep,h1,h2,_⟩:=p;exact vi PySem.W.kitx_dict I.kIn ⟨o,h1,h2.1⟩ e (fun z=>nomatch z) h
 | @dT a kvs ea=>cases (show u=Value.ref a from rx);obtain⟨_,_,xs,_,o,es,ep,h1,h2,_⟩:=(show bE X.prog X.w H s.heap a (.dT kvs)from I.hok a _ ea);exact vi PySem.W.kitx_dict I.kIn ⟨o,h1,h2.1⟩ e (fun z=>nomatch z) h
 | @ins a C dx fs ea cl ha hn htk hm=>cases (show u=Value.ref a from rx);obtain⟨mA,O,_⟩:=p7 I.hok ea;obtain⟨od,J,_⟩:=O.look;exact vi (PySem.W.kitx_own (cl.get _) cl.hd ha hn htk hm) I.kIn J e (fun z=>nomatch z) h
end
structure dv(k:Nat)(A:Around):Prop where
 hd:A.handled=none
 dp:A.depth+3*k+5<recursionLimit
 un:A.units+16*k+200<cLine
theorem dv.mono{j k:Nat}{A:Around}(r:dv k A)(h:j<=k):dv j A:=⟨r.hd,by have:=r.dp;omega,by have:=r.un;omega⟩
theorem dv.deeper{k:Nat}{A:Around}(r:dv (k+1) A)(env:Env):dv k (A.deeper env):=
 ⟨r.hd,by have:=r.dp;show A.depth+1+3*k+5<_;omega,by have:=r.un;show A.units+3+16*k+200<_;omega⟩
theorem dv.depth{k:Nat}{A:Around}(r:dv k A):A.depth<recursionLimit:=by have:=r.dp;omega
theorem dv.units{k:Nat}{A:Around}(r:dv k A):A.units+64<cLine:=by have:=r.un;omega
def ti:TA:=fun _ H Q=>Q [] H
def rY(ta:TE)(tr:TA):TA:=fun σ H Q=>ta σ H fun x H1=>tr σ H1 fun xs H2=>Q (x::xs) H2
section
variable{X:Cx}{e:Expr}{es:List Expr}{te:TE}{t:TA}{pos:Pos}
theorem ag:PA X [] ti:=fun _ _ _ _ H Q I h=>Calls.spliced_nil ⟨[],H,I,.nil,h⟩
theorem aa(ha:PE X e te)(hr:PA X es t)(hs:starEach (e::es) X.env=(false,eval e X.env)::starEach es X.env:=by rfl):PA X (e::es) (rY te t):=by intro pos pins s σ H Q I h;rw[hs];show wpAny _ _ (spliced ((false,eval e X.env)::backTo pos (starEach es X.env))) _ _ s;refine Calls.spliced_cons (thn (ha pins s σ H _ I h) fun u s1 hPz=>?_);obtain⟨x,H1,I1,r1,q1⟩:=hPz;exact thn (hr pos pins s1 σ H1 _ I1 q1) fun us s2 hPz=>L2.ep3 hPz fun xs H2 I2 r2 q2=>⟨x::xs,H2,I2,.cons r1 r2,q2⟩
def sX(t:TA):TE:=fun σ H Q=>t σ H fun xs H1=>xs.length<=sizeLine/\∀p,H1 p=none->Q (.ref p) (upd H1 p (.tup xs))
def tj(t:TA):TE:=fun σ H Q=>t σ H fun xs H1=>xs.length<=sizeLine/\∀p,H1 p=none->Q (.ref p) (upd H1 p (.lst xs))
theorem aG{x1}(h:PA X es t):PE X (.Tuple es x1 pos) (sX t):=by intro pins s σ H Q I hq;refine wpAny_Tuple_spliced (thn (h pos pins s σ H _ I hq) fun us s1 ⟨xs,H1,I1,r,z,q⟩=>⟨by rw[<-r.length];exact z,?_⟩);have hf:H1 s1.heap.objs.size=none:=I1.hok.fresh (uc _);refine⟨.ref s1.heap.objs.size,upd H1 s1.heap.objs.size (.tup xs),I1.laid (t':=s1.toks) (fun b u e=>tR _ e) (uc _) ?_,rfl,q _ hf⟩;exact⟨z,us,r,⟨_,um _ rfl,rfl,_,rfl⟩⟩
theorem bz(h:PA X es t):PE X (.List es pos) (tj t):=by intro pins s σ H Q I hq;refine wpAny_List_spliced (thn (h pos pins s σ H _ I hq) fun us s1 ⟨xs,H1,I1,r,z,q⟩=>⟨by rw[<-r.length];exact z,?_⟩);have hf:H1 s1.heap.objs.size=none:=I1.hok.fresh (uc _);refine⟨.ref s1.heap.objs.size,upd H1 s1.heap.objs.size (.lst xs),I1.laid (t':=s1.toks) (fun b u e=>tR _ e) (uc _) ?_,rfl,q _ hf⟩;exact⟨z,us,0,r,um _ rfl⟩
end
noncomputable abbrev Sp:=List V->Hp->VK->XK->Prop
noncomputable abbrev CXT:=List Env->Hp->Shared->XK->Value->Shared->Prop
structure qr(P:Program)(w:World)(K:Frag)(mg:Str->Option Value)(base:Heap)(A:Around)(outer:List Env)(s:Shared)(H:Hp):Prop where
 frames:A.frames=some outer
 mod:Mod K mg base
 bs:∀b o,base.get? b=some o->s.heap.get? b=some o/\H b=none
 bsz:base.objs.size<=s.heap.objs.size
 funs:s.heap.FunFrames base outer
 frf:∀b∈frs outer,H b=none
 hok:HOk P w H s.heap
 bare:AllBare s.gens
def CE(outer:List Env)(P:Program)(w:World)(H:Hp)(s:Shared)(Q:VK)(u:Value)(s':Shared):Prop:=
 ∃v H',s'.os=s.os/\AllBare s'.gens/\Un (frs outer) [] H H' s.heap s'.heap/\HOk P w H' s'.heap/\RelV v u/\Q v H'
def CR(CX:CXT)(outer:List Env)(P:Program)(w:World)(H:Hp)(s:Shared)(Q:VK)(E:XK)(r:Result)(s':Shared):Prop:=
 match r with
 | .ok (.ret u)=>CE outer P w H s Q u s'
 | .ok _=>False
 | .error e=>CX outer H s E e s'
structure jn(P:Program)(w:World)(K:Frag)(mg:Str->Option Value)(base:Heap)(CX:CXT)(k:Nat)(f:Addr)(fd:FuncData)(ps:List Str)(sp:Sp):Prop where
 len:∀vs H Q E,sp vs H Q E->vs.length=ps.length
 run:∀(A:Around)(outer:List Env)(s:Shared)(H:Hp)(args:Args)(us:List Value)(vs:List V)(Q:VK)(E:XK),dv k A->qr P w K mg base A outer s H->BindsTo s fd args (ps.zip us)->Vals vs us->sp vs H Q E->
  codeAny (model P w) A (.call (.ref f) args) (CR CX outer P w H s Q E) s
section
variable{X:Cx}{pins:List (Addr×Obj)}{σ:St}{H:Hp}{s s':Shared}
theorem Inv.env0(I:Inv X pins σ H s):qr X.prog X.w X.K X.mg X.base X.A X.stack s H:=
 ⟨I.ok.frames,I.ok.mod,I.bs,vk I.ok.bsz I.sz,I.stack,I.stkFree,I.hok,I.bare⟩
theorem Inv.after{Q:VK}{u:Value}(I:Inv X pins σ H s)(h:CE X.stack X.prog X.w H s Q u s'):EP X pins σ Q u s':=by obtain⟨v,H',os,bare,un,hok,r,q⟩:=h;obtain⟨hh,g,d,t,os'⟩:=s';obtain rfl:os'=s.os:=os;exact⟨v,H',I.call (h':=hh) (g':=g) (d':=d) (t':=t) (ch:=[]) un hok bare (fun b z=>absurd z (by simp)),r,q⟩
end
def nj(sp:Sp)(dvs:List V)(E:XK)(t:TA):TE:=fun σ H Q=>t σ H fun vs H1=>sp (vs++dvs) H1 Q E
def Binds(K:Frag)(fd:FuncData)(ps:List Str)(ds:List Value):Prop:=
 ∀(s:Shared)(us:List Value),K.In s.heap->(us++ds).length=ps.length->BindsTo s fd ⟨us,[]⟩ (ps.zip (us++ds))
theorem Binds.all{K:Frag}{fd:FuncData}{ps:List Str}(h:∀us:List Value,us.length=ps.length->bindArgs fd ⟨us,[]⟩=pure (ps.zip us)):Binds K fd ps []:=fun s us _ hl=>by rw[uN]at hl ⊢;exact .of_eq (h us hl)
def Passes(CX:CXT)(X:Cx)(E:XK):Prop:=∀(pins:List (Addr×Obj))(σ:St)(H:Hp)(s:Shared)(e:Value)(s':Shared),Inv X pins σ H s->CX X.stack H s E e s'->X.xe e s'
section
variable{X:Cx}{CX:CXT}{k:Nat}{f C:Addr}{fd:FuncData}{ps:List Str}{sp:Sp}{dvs:List V}{ds:List Value}{E:XK}{x m:Str}{p pos apos:Pos}{e o:Expr}{es:List Expr}{ta:TE}{t:TA}
theorem qL{pins:List (Addr×Obj)}{σ:St}{H:Hp}{s:Shared}{Q:VK}{us:List Value}{vs:List V}(F:jn X.prog X.w X.K X.mg X.base CX k f fd ps sp)(hr:dv k X.A)(hb:Binds X.K fd ps ds)(hd:Vals dvs ds)(hx:Passes CX X E)
  (I:Inv X pins σ H s) (r:Vals vs us) (h:sp (vs++dvs) H Q E):wpAny (model X.prog X.w) X.A (call (.ref f) us) (EP X pins σ Q) X.xe s:=by
 have r2:Vals (vs++dvs) (us++ds):=r.append hd;have hl:(us++ds).length=ps.length:=by rw[<-r2.length];exact F.len _ _ _ _ h
 refine wpAny_call (codeAny_mono (F.run X.A X.stack s H ⟨us,[]⟩ (us++ds) (vs++dvs) Q E hr I.env0 (hb s us I.kIn hl) r2 h) fun r s' hq=>?_);cases r with
 |error e=>exact hx pins σ H s e s' I hq
 |ok fl=>
  cases fl with
  |ret u=>exact I.after hq
  |next=>exact False.elim hq
  |brk=>exact False.elim hq
  |cont=>exact False.elim hq
theorem pD(F:jn X.prog X.w X.K X.mg X.base CX k f fd ps sp)(hr:dv k X.A)(hg:Gl X x)(hm:X.mg x=some (.ref f))(hk:keepIn X.K (.ref f)=true)(hb:Binds X.K fd ps ds)(hd:Vals dvs ds)(hx:Passes CX X E)
  (ha:PA X (e::es) t) (hdb:(x==("__debug__":Str))=false:=by decide) (he:starEach (e::es) X.env=(false,eval e X.env)::starEach es X.env:=by rfl) (hpl:(backTo pos (starEach es X.env)).any (·.1)=false:=by rfl):
  PE X (.Call (.Name x p) (e::es) [] pos) (nj sp dvs E t):=by
 intro pins s σ H Q I h;refine wpAny_Call_Name_kw (pT I hg hm ?_ hdb);refine PySem.W.callWith_K (h₀:=X.base) I.ok.mod.kin hk (thn (ha pos pins s σ H _ I h) fun us s1 hPz=>L2.ep3 hPz fun vs H1 I1 r q=>⟨I1.kIn,?_⟩) he hpl;exact qL F hr hb hd hx I1 r q
end
structure aD(N P:List Str)(sc:Scope):Prop where
 kind:sc.kind=.function
 co:sc.isCoroutine=false
 gen:sc.isGenerator=false
 nd:N.Nodup
 pre:N.take P.length=P
 par:∀x∈P,sc.names.lookup x=some .local\/sc.names.lookup x=some .cell
 nofree:∀y∈sc.names,y.2≠ .free
theorem iA{kindOf:Str->Option NameKind}{x:Str}:∀{binds:List (Str×Value)}{m:Str->Option Value},(∀v,(x,v)∉binds)->bindL kindOf binds m x=m x
 | [],_,_=>rfl
 |(n,v)::r,m,h=>by
  unfold bindL;rw[iA fun w hw=>h w (t6 _ hw)];split
  ·have:x≠n:=(by rintro rfl;exact h v tY);simp[this]
  ·rfl
theorem iC{kindOf:Str->Option NameKind}{x:Str}:∀{binds:List (Str×Value)}{m:Str->Option Value},(∀v,(x,v)∉binds)->bindC kindOf binds m x=m x
 | [],_,_=>rfl
 |(n,v)::r,m,h=>by
  unfold bindC;rw[iC fun w hw=>h w (t6 _ hw)];split
  ·rfl
  ·have:x≠n:=(by rintro rfl;exact h v tY);simp[this]
theorem iB{kindOf:Str->Option NameKind}{x:Str}{v:Value}:∀{P:List Str}{vs:List Value}{i:Nat}{m:Str->Option Value},P.Nodup->P[i]?=some x->vs[i]?=some v->kindOf x=some .local->
  bindL kindOf (P.zip vs) m x=some v
 | [],_,_,_,_,h,_,_=>by simp at h
 |_::_,[],_,_,_,_,h,_=>by simp at h
 |p::P,w::vs,0,m,nd,h1,h2,hk=>by simp at h1 h2;subst h1;subst h2;show bindL kindOf ((p,w)::P.zip vs) m p=_;unfold bindL;rw[iA fun v hv=>(List.nodup_cons.mp nd).1 (List.of_mem_zip hv).1,tU hk];simp
 |p::P,w::vs,i+1,m,nd,h1,h2,hk=>by show bindL kindOf ((p,w)::P.zip vs) m x=_;unfold bindL;exact iB (i:=i) (List.nodup_cons.mp nd).2 (by simpa using h1) (by simpa using h2) hk
theorem iD{kindOf:Str->Option NameKind}{x:Str}{v:Value}:∀{P:List Str}{vs:List Value}{i:Nat}{m:Str->Option Value},P.Nodup->P[i]?=some x->vs[i]?=some v->kindOf x≠some .local->
  bindC kindOf (P.zip vs) m x=some v
 | [],_,_,_,_,h,_,_=>by simp at h
 |_::_,[],_,_,_,_,h,_=>by simp at h
 |p::P,w::vs,0,m,nd,h1,h2,hk=>by simp at h1 h2;subst h1;subst h2;show bindC kindOf ((p,w)::P.zip vs) m p=_;unfold bindC;rw[iC fun v hv=>(List.nodup_cons.mp nd).1 (List.of_mem_zip hv).1,tV hk];simp
 |p::P,w::vs,i+1,m,nd,h1,h2,hk=>by show bindC kindOf ((p,w)::P.zip vs) m x=_;unfold bindC;exact iD (i:=i) (List.nodup_cons.mp nd).2 (by simpa using h1) (by simpa using h2) hk
noncomputable def start(N:List Str)(vs:List V):St:=vs.map some++List.replicate (N.length-vs.length) none
noncomputable def kN(CX:CXT)(P:Program)(w:World)(K:Frag)(mg:Str->Option Value)(base:Heap)(N:List Str)(qual:Str)(scope:Scope)(f:Addr)(cd:Value)(A:Around)(outer:List Env)(s:Shared)(H:Hp)(E:XK):Cx where
 prog:=P
 w:=w
 K:=K
 mg:=mg
 base:=base
 A:=A.deeper (envOfC qual scope s.heap.objs.size f cd)
 N:=N
 s₀:=s
 H₀:=H
 env:=envOfC qual scope s.heap.objs.size f cd
 outer:=outer
 stack:=envOfC qual scope s.heap.objs.size f cd::outer
 ex:=[]
 calm:=true
 fn:=fun _=>true
 pn:=[]
 xe:=fun e s'=>wpAny (model P w) (A.deeper (envOfC qual scope s.heap.objs.size f cd)) (leaving (envOfC qual scope s.heap.objs.size f cd) e) (fun _ s''=>CX outer H s E e s'') (fun e' s''=>CX outer H s E e' s'') s'
theorem ke{sc:Scope}{n:Nat}{x:Str}(h:sc.names.lookup x=some .cell):∃c,(cellsFrom n sc.names []).lookup x=some c:=by have q:=PySem.W.cellsFrom_some sc.names n [] (.inl h);exact Option.isSome_iff_exists.mp q
theorem mW{CX:CXT}{P:Program}{w:World}{K:Frag}{mg:Str->Option Value}{base:Heap}{N ps:List Str}{qual:Str}{scope:Scope}{f:Addr}{cd:Value}{A:Around}{outer:List Env}{s s1:Shared}{H:Hp}{E:XK}{us:List Value}{vs:List V}
  (S:aD N ps scope) (hd:A.handled=none) (e0:qr P w K mg base A outer s H) (hl:vs.length=ps.length) (r:Vals vs us)
  (x:InCallC s s.heap.objs.size (bindL (envOfC qual scope s.heap.objs.size f cd).kindOf (ps.zip us) fun _=>none) (cellsFrom (s.heap.objs.size+1) scope.names []) (bindC (envOfC qual scope s.heap.objs.size f cd).kindOf (ps.zip us) fun _=>none) s1):
  Inv (kN CX P w K mg base N qual scope f cd A outer s H E) [] (start N vs) H s1:=by
 have hpl:ps.length<=N.length:=by have:=congrArg List.length S.pre;rw[uf]at this;omega
 obtain⟨h1,tk,rfl,hk⟩:=x.done;have noA:∀b:Addr,b∉(kN CX P w K mg base N qual scope f cd A outer s H E).ex:=fun b z=>absurd (show b∈([]:List Addr)from z) (by simp)
 refine⟨⟨e0.mod,S.kind,rfl,rfl,uc _,fun y z c h1 h2=>?_,fun y hy=>?_,fun y c _ h=>?_,fun _=>hd,Around.frames_deeper e0.frames,.inr ⟨rfl,rfl⟩,fun b z=>absurd z (noA b),e0.bs,e0.bsz,fun b _ _=>noA b,fun b z=>absurd z (noA b),e0.funs,e0.frf⟩,
  rfl,e0.bare,Un.kept hk,⟨_,x.toInCall.ns,fun i y v h1 h2 h3=>?_⟩,fun y c h=>⟨_,x.cell y c h⟩,e0.hok.fresh (uc _),fun y c h=>?_,fun p hp=>absurd (show p∈([]:List (Addr×Obj))from hp) (by simp),e0.hok.kept hk,?_⟩
 ·exact name_of_addr x.apart (vA h1) (vA h2)
 ·have hy:scope.names.lookup y=some .cell\/scope.names.lookup y=some .free:=hy;rcases hy with hy|hy
  ·exact ke hy
  ·exact absurd rfl (S.nofree _ (vA hy))
 ·exact Nat.le_of_lt (x.above y c (vA h))
 ·have hi:i<vs.length:=by
   unfold start at h2;by_cases hi:i<vs.length
   ·exact hi
   ·rw[vC (by simpa using hi)]at h2;rw[List.getElem?_replicate]at h2;split at h2<;>cases h2
  have ha:vs[i]?=some v:=by
   unfold start at h2;rw[vH (by simpa using hi),uV]at h2;cases e:vs[i]? with
   |none=>rw[e]at h2;cases h2
   |some a=>rw[e]at h2;cases h2;rfl
  obtain⟨u,hu,rv⟩:=r.get ha;have hp:ps[i]?=some y:=by rw[<-S.pre,vo (by omega)];exact h1
  have ndP:ps.Nodup:=by rw[<-S.pre];exact S.nd.sublist (List.take_sublist _ _)
  refine⟨u,rv,?_⟩;rcases S.par y (uC hp)with k|k
  ·exact .inl ⟨k,iB ndP hp hu k⟩
  ·obtain⟨c,e⟩:=ke (n:=s.heap.objs.size+1) k;refine .inr ⟨.inl k,c,e,?_⟩;have q:=x.cell y c e;rw[iD ndP hp hu (by show scope.names.lookup y≠_;rw[k];decide)]at q;exact q
 ·exact e0.hok.fresh (Nat.le_of_lt (x.above y c (vA h)))
 ·unfold start;show _=N.length;rw[uA,tX,List.length_replicate];omega
theorem sO{CX:CXT}{P:Program}{w:World}{K:Frag}{mg:Str->Option Value}{base:Heap}{k:Nat}{f:Addr}{name qual:Str}{params:Arguments}{body:List Stmt}{scope:Scope}{dV kV doc pm cdv ct oc:Value}{an od:Option Addr}
  {osl:Array (Option Value)} {N ps:List Str} {sp:Sp} (lk:K.lookup f=some ⟨oc,od,.func (fnOf name qual params body scope dV kV doc pm an cdv ct),osl⟩) (hcd:codeIn K cdv qual=true) (S:aD N ps scope)
  (len:∀vs H Q E,sp vs H Q E->vs.length=ps.length)
  (hbody:∀(A:Around)(outer:List Env)(s:Shared)(H:Hp)(vs:List V)(Q:VK)(E:XK),dv k (A.deeper (envOfC qual scope s.heap.objs.size f cdv))->sp vs H Q E->
   ∃t,PSs (kN CX P w K mg base N qual scope f cdv A outer s H E) body t/\t {nx:=fun _ H'=>Q .non H',rt:=Q} (start N vs) H):
  jn P w K mg base CX (k+1) f (fnOf name qual params body scope dV kV doc pm an cdv ct) ps sp:=by
 refine⟨len,fun A outer s H args us vs Q E hr e0 hb r hsp=>?_⟩;have hl:=len _ _ _ _ hsp;have KX:K.In s.heap:=e0.mod.kin.keeps fun b o e=>(e0.bs b o e).1;have lim:s.heap.NoLimit:=e0.mod.nolimit.keeps fun b o e=>(e0.bs b o e).1;have hkind:∀y∈ps.zip us,scope.names.lookup y.1=some .local\/(scope.names.lookup y.1=some .cell/\((cellsFrom (s.heap.objs.size+1) scope.names []).lookup y.1).isSome=true):=fun⟨n,v⟩ hy=>by
  rcases S.par n (List.of_mem_zip hy).1 with q|q
  ·exact .inl q
  ·exact .inr ⟨q,PySem.W.cellsFrom_some _ _ _ (.inl q)⟩
 refine codeAny_call_function hr.depth (KX _ _ lk) rfl S.co S.gen rfl (PySem.W.codeRec_of KX hcd) (hb _ _ _ _ ?_);refine wpAny_newFunctionEnv_cells S.kind hkind fun env he s1 x=>?_;subst he;refine⟨lim.keeps x.toInCall.keep,codeAny_func ?_⟩;obtain⟨t,ht,hq⟩:=hbody A outer s H vs Q E (hr.deeper _) hsp;have I:Inv (kN CX P w K mg base N qual scope f cdv A outer s H E) [] (start N vs) H s1:=mW S hr.hd e0 hl r x;refine vc (ht [] s1 (start N vs) H _ I hq) (fun fl s' hs=>?_) fun e s' hs=>hs;have fin:∀{σ':St}{H':Hp}{v:V}{u:Value},Inv (kN CX P w K mg base N qual scope f cdv A outer s H E) [] σ' H' s'->RelV v u->Q v H'->CE outer P w H s Q u s':=
  fun {σ' H' v u} J rv q=>⟨v,H',J.os,J.bare,J.base,J.hok,rv,q⟩
 cases fl with
 |ret u=>obtain⟨v,σ',H',J,rv,q⟩:=hs;exact fin J rv q
 |next=>obtain⟨σ',H',J,q⟩:=hs;exact fin (v:=V.non) (u:=Value.none) J rfl q
 |brk=>obtain⟨_,_,_,q⟩:=hs;exact False.elim q
 |cont=>obtain⟨_,_,_,q⟩:=hs;exact False.elim q
section
variable{X:Cx}{x:Str}{p pos:Pos}{e:Expr}{es:List Expr}{t:TA}{id T:String}{r:List V->Hp->VK->Prop}
def tCB(r:List V->Hp->VK->Prop)(t:TA):TE:=fun σ H Q=>t σ H fun vs H1=>r vs H1 Q
theorem cL(hc:dJ X (.builtin id) r)(hg:Gl X x)(hm:X.mg x=none)(hv:bootBuiltins x=some (.builtin id))(ha:PA X (e::es) t)(hn:x≠"__name__":=by decide)(hdb:(x==("__debug__":Str))=false:=by decide)
  (he:starEach (e::es) X.env=(false,eval e X.env)::starEach es X.env:=by rfl) (hpl:(backTo pos (starEach es X.env)).any (·.1)=false:=by rfl):PE X (.Call (.Name x p) (e::es) [] pos) (tCB r t):=by
 intro pins s σ H Q I h;refine wpAny_Call_Name_kw (fw I hg hm hv ?_ hn hdb);exact PyProof.Rows.callWith_builtin1 (thn (ha pos pins s σ H _ I h) fun us s1 hPz=>L2.ep3 hPz fun vs H1 I1 r1 q1=>hc pins s1 σ H1 vs us Q I1 r1 q1) he hpl
theorem de(hc:dJ X (.type T) r)(hg:Gl X x)(hm:X.mg x=none)(hv:bootBuiltins x=some (.type T))(ha:PA X (e::es) t)(hn:x≠"__name__":=by decide)(hdb:(x==("__debug__":Str))=false:=by decide)
  (he:starEach (e::es) X.env=(false,eval e X.env)::starEach es X.env:=by rfl) (hpl:(backTo pos (starEach es X.env)).any (·.1)=false:=by rfl):PE X (.Call (.Name x p) (e::es) [] pos) (tCB r t):=by
 intro pins s σ H Q I h;refine wpAny_Call_Name_kw (fw I hg hm hv ?_ hn hdb);exact PyProof.Rows.callWith_type1 (thn (ha pos pins s σ H _ I h) fun us s1 hPz=>L2.ep3 hPz fun vs H1 I1 r1 q1=>hc pins s1 σ H1 vs us Q I1 r1 q1) he hpl
end
noncomputable def ixN(n:Nat)(i:Int):Option Nat:=if 0<=i then(if i<n then some i.toNat else none)else if-(n:Int)<=i then some (i+n).toNat else none
noncomputable def atI{α:Type}(xs:List α)(i:Int):Option α:=(ixN xs.length i).bind fun j=>xs[j]?
theorem p6{n:Nat}{i:Int}{j:Nat}(h:ixN n i=some j):seqIndex? i n=some j/\j<n/\ -(n:Int)<=i/\i<n:=by
 unfold ixN at h;by_cases h0:0<=i
 ·rw[tU h0]at h;by_cases h1:i<n
  ·rw[tU h1]at h;have e:i.toNat=j:=vn h;exact⟨by rw[seqIndex_of h0 h1,e],by omega,by omega,h1⟩
  ·rw[tV h1]at h;cases h
 ·rw[tV h0]at h;by_cases h1: -(n:Int)<=i
  ·rw[tU h1]at h;have e:(i+n).toNat=j:=vn h;exact⟨by rw[seqIndex_neg (by omega) h1,e],by omega,h1,by omega⟩
  ·rw[tV h1]at h;cases h
theorem l9{α:Type}{xs:List α}{i:Int}{v:α}(h:atI xs i=some v):∃j,seqIndex? i xs.length=some j/\xs[j]?=some v/\j<xs.length/\ -(xs.length:Int)<=i/\i<xs.length:=by
 unfold atI at h;cases e:ixN xs.length i with
 |none=>rw[e]at h;cases h
 |some j=>rw[e]at h;obtain⟨h1,h2,h3,h4⟩:=p6 e;exact⟨j,h1,h,h2,h3,h4⟩
theorem ak{α:Type}{xs:List α}{j:Nat}{v:α}(h:xs[j]?=some v):atI xs (j:Int)=some v:=by
 have hj:j<xs.length:=(t8.mp h).1;have e:ixN xs.length (j:Int)=some j:=by unfold ixN;rw[tU (by omega),tU (by omega)];simp
 unfold atI;rw[e];exact h
theorem oD{α:Type}(xs:List α)(v:α):atI (xs++[v]) (-1)=some v:=by
 have hl:(xs++[v]).length=xs.length+1:=by simp
 have e:ixN (xs++[v]).length (-1)=some xs.length:=by unfold ixN;rw[hl,tV (by decide),tU (by omega)];congr 1;omega
 unfold atI;rw[e];show(xs++[v])[xs.length]?=some v;simp
def qm(b:Expr):Prop:=∀o i,subscripted b false o i=operate [o,i] (getItem o i)
def IxR(X:Cx)(r:R2):Prop:=
 ∀(value slice:Expr)(pins:List (Addr×Obj))(s:Shared)(σ:St)(H:Hp)(x y:V)(v u:Value)(Q:VK),Inv X pins σ H s->RelV x v->RelV y u->r x y H Q->
  subscripted slice false v u=operate [v,u] (getItem v u)->wpAny (model X.prog X.w) X.A (subscriptTail value slice v u) (EP X pins σ Q) X.xe s
def MtR(X:Cx)(id:String)(r:V->List V->Hp->VK->Prop):Prop:=
 ∀(pins:List (Addr×Obj))(s:Shared)(σ:St)(H:Hp)(x:V)(xs:List V)(v:Value)(us:List Value)(Q:VK),Inv X pins σ H s->RelV x v->Vals xs us->r x xs H Q->
  wpAny (model X.prog X.w) X.A (call (.builtin id) (v::us)) (EP X pins σ Q) X.xe s
section
variable{X:Cx}{a b:Expr}{ta tb:TE}{pos:Pos}
theorem ay{r:R2}(hr:IxR X r)(ha:PE X a ta)(hb:PE X b tb)(hs:qm b):PE X (.Subscript a b pos) (tOp r ta tb):=by intro pins s σ H Q I h;exact Subscript_ (rJ ha hb I h fun v u s2 x y H2 I2 rx ry q=>hr a b pins s2 σ H2 x y v u Q I2 rx ry q (hs _ _))
noncomputable def si(K:Frag):R2:=fun x y H Q=>∃p xs i v,x=.ref p/\y=.int i/\SqL K H p xs/\atI xs i=some v/\Q v H
noncomputable def sh(K:Frag):R2:=fun x y H Q=>∃p xs i v,x=.ref p/\y=.int i/\SqT K H p xs/\atI xs i=some v/\Q v H
theorem cT:IxR X (si X.K):=by
 intro value slice pins s σ H x y v u Q I rx ry h hs;obtain⟨p,xs,i,z,rfl,rfl,hq,he,q⟩:=h;cases rx;obtain⟨t,rfl⟩:=ry;obtain⟨its,r,pl,hz⟩:=I.list hq;obtain⟨j,h1,h2,h3,h4,h5⟩:=l9 he;obtain⟨w,ew,rw'⟩:=r.get h2;have hl:=r.length;have hn:=kI;have fin:EP X pins σ Q w s:=⟨z,H,I,rw',q⟩;by_cases h0:0<=i
 ·have hj:i.toNat=j:=by
   rw[seqIndex_of h0 h5]at h1;exact vn h1
  exact item_listR pl.isList h0 (by omega) (by rw[hj];simpa using ew) fin hs
 ·have hj:(i+(its.toArray.size:Int)).toNat=j:=by
   rw[seqIndex_neg (by omega) h4]at h1;rw[uh,<-hl];exact vn h1
  exact subscriptTail_builtinR (x:=w) pl.isList.typeIs slot_list_getitem.lookup
   (wpAny_getItem_list_neg (Q:=fun r s'=>r=w/\EP X pins σ Q r s') pl.isList (by omega) (by rw[uh]<;>omega) (by omega) (by rw[hj];simpa using ew) ⟨rfl,fin⟩) hs
theorem au:IxR X (sh X.K):=by
 intro value slice pins s σ H x y v u Q I rx ry h hs;obtain⟨p,xs,i,z,rfl,rfl,hq,he,q⟩:=h;cases rx;obtain⟨t,rfl⟩:=ry;obtain⟨its,r,pl,hz⟩:=I.tuple hq;obtain⟨j,h1,h2,h3,h4,h5⟩:=l9 he;obtain⟨w,ew,rw'⟩:=r.get h2;have hl:=r.length;have hn:=kI;have fin:EP X pins σ Q w s:=⟨z,H,I,rw',q⟩;exact subscriptTail_builtinR (x:=w) pl.typeIs slot_tuple_getitem.lookup
  (getItem_tuple (j:=j) (Q:=fun r s'=>r=w/\EP X pins σ Q r s') pl (by omega) (by omega) (by rw[uh,<-hl];exact h1) (by simpa using ew) ⟨rfl,fin⟩) hs
noncomputable def fL:V->Bool
 | .non=>true
 | .bl _=>true
 | .int _=>true
 | .str _=>true
 |_=>false
noncomputable def eqV:V->V->Bool
 | .non,.non=>true
 | .bl a,.bl b=>a==b
 | .bl a,.int b=>(if a then 1 else 0)==b
 | .int a,.bl b=>a==(if b then 1 else 0)
 | .int a,.int b=>a==b
 | .str a,.str b=>a==b
 |_,_=>false
theorem rE{A:Around}{s:Shared}{y x:V}{u v:Value}(ry:RelV y u)(rx:RelV x v)(fy:fL y=true)(fx:fL x=true):SeqAt.EqAt A s u v (eqV y x):=by
 cases y with
 |non=>
  cases ry;cases x with
  |non=>cases rx;exact SeqAt.EqAt.same _
  |bl b=>cases rx;exact SeqAt.EqAt.none_bool b
  |int b=>obtain⟨t,rfl⟩:=rx;exact SeqAt.EqAt.none_int b t
  |str b=>obtain⟨t,rfl⟩:=rx;exact SeqAt.EqAt.none_str b t
  |_=>exact absurd (show false=true from fx) tZ
 |bl a=>
  cases ry;cases x with
  |non=>cases rx;exact SeqAt.EqAt.bool_none a
  |bl b=>cases rx;exact SeqAt.EqAt.bool_bool a b
  |int b=>obtain⟨t,rfl⟩:=rx;exact SeqAt.EqAt.bool_int a b t
  |str b=>obtain⟨t,rfl⟩:=rx;exact SeqAt.EqAt.bool_str a b t
  |_=>exact absurd (show false=true from fx) tZ
 |int a=>
  obtain⟨t',rfl⟩:=ry;cases x with
  |non=>cases rx;exact SeqAt.EqAt.int_none a t'
  |bl b=>cases rx;exact SeqAt.EqAt.int_bool a t' b
  |int b=>obtain⟨t,rfl⟩:=rx;exact SeqAt.EqAt.int_int a t' b t
  |str b=>obtain⟨t,rfl⟩:=rx;exact SeqAt.EqAt.int_str a t' b t
  |_=>exact absurd (show false=true from fx) tZ
 |str a=>
  obtain⟨t',rfl⟩:=ry;cases x with
  |non=>cases rx;exact SeqAt.EqAt.str_none a t'
  |bl b=>cases rx;exact SeqAt.EqAt.str_bool a t' b
  |int b=>obtain⟨t,rfl⟩:=rx;exact SeqAt.EqAt.str_int a t' b t
  |str b=>obtain⟨t,rfl⟩:=rx;exact SeqAt.EqAt.str_str a t' b t
  |_=>exact absurd (show false=true from fx) tZ
 |_=>exact absurd (show false=true from fy) tZ
noncomputable def eqU(x:V)(u:Value):Bool:=match u with
 | .none=>eqV .non x
 | .bool b=>eqV (.bl b) x
 | .int i _=>eqV (.int i) x
 | .str z _=>eqV (.str z) x
 |_=>false
theorem ov{x y:V}{u:Value}(r:RelV y u)(f:fL y=true):eqU x u=eqV y x:=by
 cases y with
 |non=>cases r;rfl
 |bl b=>cases r;rfl
 |int i=>obtain⟨t,rfl⟩:=r;rfl
 |str z=>obtain⟨t,rfl⟩:=r;rfl
 |_=>exact absurd (show false=true from f) tZ
theorem jk{x:V}:∀{xs:List V}{us:List Value},Vals xs us->xs.all fL=true->us.any (eqU x)=xs.any fun y=>eqV y x
 |_,_,.nil,_=>rfl
 |y::xs,u::us,.cons r t,f=>by rw[List.all_cons,va]at f;rw[List.any_cons,List.any_cons,ov r f.1,jk t f.2]
theorem gA{A:Around}{s:Shared}{x:V}{v:Value}(rx:RelV x v)(fx:fL x=true):∀{xs:List V}{us:List Value},Vals xs us->xs.all fL=true->∀u∈us,SeqAt.EqAt A s u v (eqU x u)
 |_,_,.nil,_=>fun u hu=>by cases hu
 |y::xs,u::us,.cons r t,f=>fun u' hu=>by
  rw[List.all_cons,va]at f;rcases uy.mp hu with rfl|hu
  ·rw[ov r f.1];exact rE r rx f.1 fx
  ·exact gA rx fx t f.2 u' hu
noncomputable def inV(x:V)(xs:List V):Bool:=xs.any fun y=>eqV y x
noncomputable def rIn(K:Frag)(neg:Bool):R2:=fun x y H Q=>∃p xs,y=.ref p/\(SqL K H p xs\/SqT K H p xs)/\fL x=true/\xs.all fL=true/\Q (.bl (if neg then !inV x xs else inV x xs)) H
theorem ie:OpR X (compareOp .In) (rIn X.K false):=by
 intro pins s σ H x y v u Q I rx ry h;obtain⟨p,xs,rfl,hq,fx,fs,q⟩:=h;cases ry;rcases hq with hq|hq
 ·obtain⟨its,r,pl,hz⟩:=I.list hq;refine SeqAt.in_listAt (eqU x) pl.isList (fun w hw=>gA rx fx r fs w (by simpa using hw)) ⟨.bl _,H,I,rfl,?_⟩;rw[show its.toArray.any (eqU x)=its.any (eqU x) by simp,jk r fs];exact q
 ·obtain⟨its,r,pl,hz⟩:=I.tuple hq;refine SeqAt.in_tupleAt (eqU x) pl (fun w hw=>gA rx fx r fs w (by simpa using hw)) ⟨.bl _,H,I,rfl,?_⟩;rw[show its.toArray.any (eqU x)=its.any (eqU x) by simp,jk r fs];exact q
theorem jj:dJ X (.builtin "len") (fun xs H Q=>∃p ys,xs=[.ref p]/\(SqL X.K H p ys\/SqT X.K H p ys)/\Q (.int ys.length) H):=by
 intro pins s σ H xs us Q I r h;obtain⟨p,ys,rfl,hq,q⟩:=h;obtain⟨u,rfl,rx⟩:=vals1 r;cases rx;have hn:=kI;rcases hq with hq|hq
 ·obtain⟨its,r',pl,hz⟩:=I.list hq;have hlen:=r'.length;exact Calls.call_len_list pl.isList (by simp only[uh]<;>omega) ⟨.int ys.length,H,I.tok _,⟨s.toks+1,by rw[uh,hlen]⟩,q⟩
 ·obtain⟨its,r',pl,hz⟩:=I.tuple hq;have hlen:=r'.length;exact len_tuple pl (by simp only[uh]<;>omega) ⟨.int ys.length,H,I.tok _,⟨s.toks+1,by rw[uh,hlen]⟩,q⟩
theorem fj:dJ X (.type "list") (fun xs H Q=>∃p ys,xs=[.ref p]/\(SqL X.K H p ys\/SqT X.K H p ys)/\∀l,H l=none->Q (.ref l) (upd H l (.lst ys))):=by
 intro pins s σ H xs us Q I r h;obtain⟨p,ys,rfl,hq,q⟩:=h;obtain⟨u,rfl,rx⟩:=vals1 r;cases rx;have fin:∀(its:List Value),Vals ys its->ys.length<=sizeLine->∀(h':Heap)(c':Nat),(∀b o',s.heap.get? b=some o'->h'.get? b=some o')->
   h'.get? s.heap.objs.size=some {cls:=.type "list",dict:=none,data:=.seq its.toArray c',slots:= #[]}->EP X pins σ Q (.ref s.heap.objs.size) {s with heap:=h'}:=fun its r' hz h' c' kp e=>
  ⟨.ref s.heap.objs.size,_,I.laid (t':=s.toks) kp (uc _) (show bE X.prog X.w _ h' _ (.lst ys)from⟨hz,its,c',r',e⟩),rfl,q _ (I.hok.fresh (uc _))⟩
 rcases hq with hq|hq
 ·obtain⟨its,r',pl,hz⟩:=I.list hq;have hlen:=r'.length;obtain⟨o,ho,hc,n,hd⟩:=pl.isList;exact call_list_seq p (.inl rfl) ho hc hd (fun h' c' kp e=>fin its r' hz h' c' kp e) (by simp only[uh]<;>omega)
 ·obtain⟨its,r',pl,hz⟩:=I.tuple hq;have hlen:=r'.length;obtain⟨o,ho,hc,n,hd⟩:=pl;exact call_list_seq p (.inr rfl) ho hc hd (fun h' c' kp e=>fin its r' hz h' c' kp e) (by simp only[uh]<;>omega)
def tyV(K:Frag)(T:String)(x:V)(H:Hp):Prop:=match x with
 | .str _=>T="str"
 | .int _=>T="int"
 | .ref p=>(T="list"/\∃xs,SqL K H p xs)\/(T="tuple"/\∃o,K.lookup p=some o/\o.cls=.type "tuple"/\o.dict=none)\/
  (T="dict"/\((∃kvs,H p=some (.dK kvs))\/∃kvs,H p=some (.dT kvs)))\/(T="set"/\∃S n,H p=some (.set S n))
 |_=>False
theorem nh{pins:List (Addr×Obj)}{σ:St}{H:Hp}{s:Shared}{T:String}{x:V}{v:Value}(I:Inv X pins σ H s)(r:RelV x v)(ty:tyV X.K T x H):
  s.TypeIs v T/\∀a,v=.ref a->∃ob,s.heap.get? a=some ob/\ob.dict=none:=by
 cases x with
 |str z=>obtain⟨t,rfl⟩:=r;cases (show T="str" from ty);exact⟨typeIs_str s z t,fun _ e=>nomatch e⟩
 |int i=>obtain⟨t,rfl⟩:=r;cases (show T="int" from ty);exact⟨typeIs_int s i t,fun _ e=>nomatch e⟩
 |ref p=>
  cases r;rcases ty with⟨rfl,xs,hq⟩|⟨rfl,o,hk,hc,hd⟩|⟨rfl,hk⟩|⟨rfl,S,n,hk⟩
  ·obtain⟨its,_,pl,_⟩:=I.list hq;refine⟨pl.isList.typeIs,fun a e=>?_⟩;cases e;obtain⟨o,n,e,c,hd,_⟩:=pl;exact⟨o,e,hd⟩
  ·refine⟨⟨o,I.kIn p o hk,hc⟩,fun a e=>?_⟩;cases e;exact⟨o,I.kIn _ o hk,hd⟩
  ·have z:∃o,s.heap.get? p=some o/\o.ExactDict:=by
    rcases hk with⟨kvs,hk⟩|⟨kvs,hk⟩
    ·obtain⟨_,_,_,_,o,_,_,e,ex,_⟩:=I.hok p _ hk;exact⟨o,e,ex⟩
    ·obtain⟨_,_,_,_,o,_,_,e,ex,_⟩:=I.hok p _ hk;exact⟨o,e,ex⟩
   obtain⟨o,e,ex⟩:=z;refine⟨⟨o,e,ex.1⟩,fun a e2=>?_⟩;cases e2;exact⟨o,e,ex.2.1⟩
  ·obtain⟨o,_,_,_,e,ex,_⟩:=I.hok p _ hk;refine⟨⟨o,e,ex.1⟩,fun a e2=>?_⟩;cases e2;exact⟨o,e,ex.2.1⟩
 |_=>exact False.elim ty
def tw(K:Frag)(T:String)(r:V->List V->Hp->VK->Prop)(to:TE):TE:=fun σ H Q=>to σ H fun x H1=>tyV K T x H1/\r x [] H1 Q
def tBM(K:Frag)(T:String)(r:V->List V->Hp->VK->Prop)(to:TE)(t:TA):TE:=fun σ H Q=>to σ H fun x H1=>tyV K T x H1/\t σ H1 fun xs H2=>r x xs H2 Q
variable{o e:Expr}{es:List Expr}{to:TE}{t:TA}{name:Str}{apos cpos:Pos}{T id:String}{r:V->List V->Hp->VK->Prop}
theorem qT(pa:PlainAttrs T)(slot:Slot T name id)(hty:typeOf (.builtin id)=pure (.type "method_descriptor"))(hm:MtR X id r)(ho:PE X o to)
  (hbase:attributeBase o name X.env (eval o X.env)=eval o X.env:=by rfl) (hline:(apos.endLine==cpos.line)=true:=by rfl):PE X (.Call (.Attribute o name apos) [] [] cpos) (tw X.K T r to):=by
 intro pins s σ H Q I h;refine wpAny_Call_method0_late hbase hline (thn (ho pins s σ H _ I h) fun v s1 hPz=>?_);obtain⟨x,H1,I1,r1,ty,q1⟩:=hPz;obtain⟨h1,h2⟩:=nh I1 r1 ty;exact⟨T,id,pa,slot,hty,h1,h2,Calls.callWith_builtin rfl (PySem.evalArgs_none (hm pins s1 σ H1 x [] v [] Q I1 r1 .nil q1))⟩
theorem jN(pa:PlainAttrs T)(slot:Slot T name id)(hty:typeOf (.builtin id)=pure (.type "method_descriptor"))(hm:MtR X id r)(ho:PE X o to)(ha:PA X (e::es) t)
  (hbase:attributeBase o name X.env (eval o X.env)=eval o X.env:=by rfl)
  (hfew:((backTo cpos (starEach (e::es) X.env)).all (fun x=> !x.1)&&(backToKw cpos (keywordEach [] X.env)).all (fun x=>x.1.isSome)
   &&decide ((e::es).length+([]:List Keyword).length+(if([]:List Keyword).isEmpty then 0 else 1)<30))=true:=by rfl)
  (hline:(apos.endLine==cpos.line)=true:=by rfl) (hs:starEach (e::es) X.env=(false,eval e X.env)::starEach es X.env:=by rfl) (hplain:(backTo cpos (starEach es X.env)).any (·.1)=false:=by rfl):
  PE X (.Call (.Attribute o name apos) (e::es) [] cpos) (tBM X.K T r to t):=by
 intro pins s σ H Q I h;refine wpAny_Call_method_late hbase hfew hline rfl (thn (ho pins s σ H _ I h) fun v s1 hPz=>?_);obtain⟨x,H1,I1,r1,ty,q1⟩:=hPz;obtain⟨h1,h2⟩:=nh I1 r1 ty;refine⟨T,id,pa,slot,hty,h1,h2,?_⟩;have hA:=ha cpos pins s1 σ H1 _ I1 q1;rw[hs]at hA ⊢;refine Calls.callWith_builtin (by show(false||(backTo cpos (starEach es X.env)).any (·.1))=false;rw[hplain]<;>rfl) (Calls.evalArgs_plain ?_);exact thn hA fun us s2 hPz=>L2.ep3 hPz fun vs H2 I2 r2 q2=>hm pins s2 σ H2 x vs v us Q I2 r1 r2 q2
end
def MtM(X:Cx)(id:String)(r:V->List V->Hp->VK->Prop):Prop:=
 ∀(pins:List (Addr×Obj))(s:Shared)(σ:St)(H:Hp)(x:V)(xs:List V)(v:Value)(us:List Value)(Q:VK),Inv X pins σ H s->RelV x v->Vals xs us->r x xs H Q->
  wpAny (model X.prog X.w) X.A (call (.builtin id) (v::us)) (EP X pins σ Q) X.xe s
theorem Vals.one:∀{x:V}{us:List Value},Vals [x] us->∃u,us=[u]/\RelV x u
 |_,_,.cons r .nil=>⟨_,rfl,r⟩
theorem Vals.zero:∀{us:List Value},Vals [] us->us=[]
 |_,.nil=>rfl
section
variable{X:Cx}{pins:List (Addr×Obj)}{σ:St}{H:Hp}{s:Shared}{l b:Addr}{xs ys zs:List V}
theorem Inv.lset{its its':List Value}{n:Nat}{f:Array Value->Array Value}{t':Nat}(I:Inv X pins σ H s)(hH:H l=some (.lst xs))
  (e:s.heap.get? l=some {cls:=.type "list",data:=.seq its.toArray n}) (hf:f its.toArray=its'.toArray) (hv:Vals ys its') (hz:ys.length<=sizeLine):
  Inv X pins σ (upd H l (.lst ys)) {s with heap:=s.heap.update l (Obj.mapSeq f),toks:=t'}:=by
 have q:=PySem.IsL.update e f;rw[hf]at q;refine I.write (x:=l) (e:=l) (by rw[hH];exact trivial) (.inl rfl) (fun b' u hb hu=>(Heap.get?_update_other s.heap (Obj.mapSeq f) (Ne.symm hb)).trans hu) ⟨_,q⟩ ?_;exact⟨hz,its',_,hv,q⟩
theorem Inv.lnew{its:List Value}{t':Nat}(I:Inv X pins σ H s)(hv:Vals ys its)(hz:ys.length<=sizeLine):
  Inv X pins σ (upd H s.heap.objs.size (.lst ys)) {s with heap:=s.heap.push {cls:=.type "list",data:=.seq its.toArray},toks:=t'}:=
 I.laid (fun _ _ q=>tR _ q) (uc _) ⟨hz,its,0,hv,um _ rfl⟩
theorem Inv.fresh(I:Inv X pins σ H s):H s.heap.objs.size=none:=I.hok.fresh (uc _)
theorem Inv.lstM(I:Inv X pins σ H s)(hH:H l=some (.lst xs)):xs.length<=sizeLine/\∃(its:List Value)(n:Nat),Vals xs its/\xs.length=its.length/\s.heap.get? l=some {cls:=.type "list",data:=.seq its.toArray n}:=by obtain⟨z,its,n,r,e⟩:=I.hok l _ hH;exact⟨z,its,n,r,r.length,e⟩
end
section
variable{X:Cx}
def pf:V->List V->Hp->VK->Prop:=fun x vs H Q=>∃l xs y,x=.ref l/\vs=[y]/\H l=some (.lst xs)/\xs.length<sizeLine/\Q .non (upd H l (.lst (xs++[y])))
theorem cJ:MtM X "list.append" pf:=by intro pins s σ H x vs v us Q I rx rv h;obtain⟨l,xs,y,rfl,rfl,hH,hz,q⟩:=h;cases rx;obtain⟨u,rfl,ru⟩:=rv.one;obtain⟨z,its,n,r,hl,e⟩:=I.lstM hH;refine call_meets F.slot_list_append ⟨_,e,rfl⟩ F.entry_list_append (F.args_list_append_2 _ _) (PySem.list_append l its.toArray n u (by rw[uh];omega)) ⟨e,?_⟩;refine⟨.non,_,I.lset (its':=its++[u]) hH e (by simp) (r.append (.cons ru .nil)) ?_,rfl,q⟩;rw[uA,List.length_singleton];omega
noncomputable def tF:R2:=fun x y H Q=>∃l b xs zs,x=.ref l/\y=.ref b/\H l=some (.lst xs)/\H b=some (.lst zs)/\xs.length+zs.length<=sizeLine/\∀p,H p=none->Q (.ref p) (upd H p (.lst (xs++zs)))
theorem nM:OpR X (binaryOp .Add) tF:=by
 intro pins s σ H x y v u Q I rx ry h;obtain⟨l,b,xs,zs,rfl,rfl,hH,hB,hz,q⟩:=h;cases rx;cases ry;obtain⟨z,its,n,r,hl,e⟩:=I.lstM hH;obtain⟨z2,its2,n2,r2,hl2,e2⟩:=I.lstM hB;refine PySem.P.add_list e e2 ?_ (by rw[uh,uh];omega);have ea:its.toArray++its2.toArray=(its++its2).toArray:=by simp
 rw[ea];exact⟨.ref _,_,I.lnew (t':=s.toks) (r.append r2) (by rw[uA];omega),rfl,q _ I.fresh⟩
end
end L2
namespace Att
open PySem PySem.W PySem.Calls PyProof.Rows
theorem fP{P:Params}{h:Heap}:∀(ns:List Int)(vs:List Value),WellAll P h vs (ns.map WData.int)->IntsAre vs ns:=by
 intro ns
 induction ns with
 |nil=>intro vs w;rw[List.map_nil]at w;cases w;exact .nil
 |cons n ns ih=>
  intro vs w;rw[uO]at w;cases w with
  |cons a b=>cases a;exact .cons _ _ (ih _ b)
theorem mj{l:OpenLaw}{n:Nat}(hn:l.most=some n){P:Params}{h:Heap}{args:List WData}{vals:List Value}
  (hpre:l.row.toRowW.claim.pre args=true) (hwl:WellAll P h vals args):
  ∃a vs ns,vals=[Value.ref a]/\args=[WData.list (ns.map WData.int)]/\h.get? a=some {cls:=.type "list",data:=.seq vs.toArray}/\IntsAre vs ns/\ns.length<=n:=by
 have hsh:WShape.hasAll [] args [.list .int]=true:=(pre_splitW hpre).1;have hc:l.pre.holds [] {args:=args}=true:=(pre_splitW hpre).2;obtain⟨d,r,rfl,h1,h2⟩:=hasAllW_cons hsh;obtain rfl:=hasAllW_nil h2;obtain⟨xs,rfl,h3⟩:=hasW_list h1;obtain⟨ns,rfl⟩:=items_int h3;have hlen:ns.length<=n:=by
  unfold OpenLaw.pre at hc;have h4:(WTm.not (.lt (.lit (.int (n:Int))) (.len (.arg 0)))).holds [] {args:=[.list (ns.map .int)]}=true:=by have h4:=(holds_andW hc).1;rw[hn]at h4;exact h4
  have h5:=condW_of h4 (w_not (w_lt w_lit (w_len_list (w_arg rfl))));rw[tX]at h5;refine Nat.le_of_not_lt fun q=>?_;have q':(n:Int)<((ns.length:Nat):Int):=by omega
  first
   |(rw[tS q']at h5;exact absurd h5 (by decide))
   |(simp at h5;omega)
 cases hwl with
 |cons w1 w2=>
  cases w2;cases w1 with
  |list ho hall=>exact⟨_,_,ns,rfl,rfl,ho,fP ns _ hall,hlen⟩
theorem mG(l:OpenLaw)(args:List WData):l.row.toRowW.claim.post args (.bool true) args=true:=
 postW_of (r:=l.row.toRowW) (X:=(true==true))
  (show WShape.has [] (.bool true) .bool=true by first|rfl|decide|simp[WShape.has,WShape.arms,WShape.armsAll])
  (show(WTm.eq .res (.lit (.bool true))).value [] {args:=args,res:=some (.bool true),after:=args}=some (.bool (true==true))from w_eq_bool (w_res rfl) w_lit) rfl
theorem kg{l:OpenLaw}{n:Nat}{q:Program}{loose:List Str}{XP:(Str->Option Value)->Heap->Prop}{YP:World->Heap->Prop}{d:DefRec}
  (hn:l.most=some n) (hdf:d.params.defaults=[])
  (call:∀(w:World)(s₀ s₁:Shared)(mg mb:Str->Option Value)(fa:Addr)(o:Obj)(pm cd doc:Value)(a:Addr)(vs:List Value)(ns:List Int),
   Ground q loose [] XP w s₀ mg mb s₁.heap->YP w s₁.heap->
   s₁.heap.get? fa=some o->o.data=.func (docDef d.name d.params d.body d.scope pm cd doc)->s₁.heap.CodeRec cd d.name->mg d.name=some (.ref fa)->
   s₁.heap.get? a=some {cls:=.type "list",data:=.seq vs.toArray}->IntsAre vs ns->ns.length<=n->s₁.gens= #[]->
   codeAny (model l.prog w) callerA (.call (.ref fa) ⟨[.ref a],[]⟩) (fun r s'=>r=.ok (.ret (.bool true))/\OldK s₁.heap s'.heap/\s'.os=s₁.os/\AllBare s'.gens) s₁):
  WalkO q loose XP YP l.row.toRowW d [] (fun f vs=>PySem.call f vs):=by
 intro w s₀ s₁ mg mb G Y fa o pm cd doc dV kV ho hd hcd hD hmg hg args vals as hpre hlay hrd hwl hlo;obtain rfl:dV=.none:=Dflts.none hD hdf;obtain rfl:kV=.none:=Dflts.noKw hD;obtain⟨a,vs,ns,rfl,rfl,hobj,hints,hlen⟩:=mj hn hpre hwl;refine enter_call (codeAny_mono (call w s₀ s₁ mg mb fa o pm cd doc a vs ns G Y ho (fd_plain hd) hcd hmg hobj hints hlen hg) fun r s' hq=>?_);obtain⟨rfl,h2,h3,h4⟩:=hq;exact⟨.inl ⟨.bool true,.bool true,[],rfl,fun _=>rfl,.bool true,mG l _,fun _=>⟨List.Pairwise.nil,fun _ hm=>(nomatch hm)⟩⟩,h2,h3,h4⟩
end Att
namespace L2
open PySem PySem.Spec PyProof.Rows
theorem mf{vs:List Value}{ns:List Int}(hI:IntsAre vs ns):Vals (ns.map V.int) vs:=by
 induction hI with
 |nil=>exact .nil
 |cons n t h ih=>exact .cons ⟨t,rfl⟩ (ih)
def qo(H:Hp):Prop:=∀b,H b=none\/∃o xs,H b=some (.frz o (.lst xs))
theorem n4{P:Program}{w:World}{K:Frag}{mg mb:Str->Option Value}{CX:CXT}{k:Nat}{fa a:Addr}{fd:FuncData}{x:Str}{sp:Sp}{s₁:Shared}{vs:List Value}{ns:List Int}
  (KX:K.In s₁.heap) (hns:s₁.heap.Ns mainGlobals mg) (hb:s₁.heap.Ns builtinsNs mb) (hbb:∀x:Str,x≠"__name__"->mb x=bootBuiltins x) (hlim:s₁.heap.NoLimit) (hg:s₁.gens= #[])
  (ha:s₁.heap.get? a=some {cls:=.type "list",data:=.seq vs.toArray}) (hi:IntsAre vs ns) (hl:ns.length<=sizeLine) (hr:dv k callerA)
  (F:∀base:Heap,K.In base->base.Ns mainGlobals mg->jn P w K mg base CX k fa fd [x] sp) (hbind:∀(s:Shared)(u:Value),BindsTo s fd ⟨[u],[]⟩ [(x,u)])
  (hsp:∀H:Hp,qo H->SqL K H a (ns.map V.int)->sp [.ref a] H (fun v _=>v=.bl true) fun _ _ _=>False)
  (hCX:∀H e s',CX [] H s₁ (fun _ _ _=>False) e s'->False):
  codeAny (model P w) callerA (.call (.ref fa) ⟨[.ref a],[]⟩) (fun r s'=>r=.ok (.ret (.bool true))/\OldK s₁.heap s'.heap/\s'.os=s₁.os/\AllBare s'.gens) s₁:=by
 have rv:=mf hi;have lenV:=hi.length;have core:∀H:Hp,qo H->SqL K H a (ns.map V.int)->HOk P w H s₁.heap->(∀b,H b≠none->b=a)->(H a≠none->K.lookup a=none)->
   codeAny (model P w) callerA (.call (.ref fa) ⟨[.ref a],[]⟩) (fun r s'=>r=.ok (.ret (.bool true))/\OldK s₁.heap s'.heap/\s'.os=s₁.os/\AllBare s'.gens) s₁:=by
  intro H hO hS hok hA hK;have base_of:∀{b:Addr}{o:Obj},s₁.heap.get? b=some o->H b=none->(i7 s₁.heap H).get? b=some o:=fun e n=>oo e n;have noA:∀{b:Addr}{o:Obj}{es:Array DictEntry}{ep:Nat},s₁.heap.get? b=some o->o.data=.dict es ep->H b=none:=fun {b o es ep} e d=>by
   cases q:H b with
   |none=>rfl
   |some u=>have e':b=a:=hA b (by rw[q];simp);subst e';rw[ha]at e;cases e;have d':Data.seq vs.toArray _=Data.dict es ep:=d;cases d'
  have nsK:∀{b:Addr}{m:Str->Option Value},s₁.heap.Ns b m->(i7 s₁.heap H).Ns b m:=fun {b m} ⟨o,es,ep,e,d,r⟩=>⟨o,es,ep,base_of e (noA e d),d,r⟩
  have hKb:K.In (i7 s₁.heap H):=fun b o e=>base_of (KX b o e) (by
   cases q:H b with
   |none=>rfl
   |some u=>
    have e':b=a:=hA b (by rw[q];simp);subst e'
    rw[hK (by rw[q];simp)]at e;cases e)
  have hM:Mod K mg (i7 s₁.heap H):=⟨hKb,nsK hns,⟨mb,nsK hb,hbb⟩,let ⟨mc,h1,h2⟩:=hlim;⟨mc,nsK h1,h2⟩⟩;have e0:qr P w K mg (i7 s₁.heap H) callerA [] s₁ H:=⟨rfl,hM,fun b o e=>pG e,Nat.le_of_eq (mX _ _),trivial,fun b hb=>absurd (show b∈([]:List Addr)from hb) (by simp),hok,.of_eq hg⟩;refine codeAny_mono ((F _ hKb (nsK hns)).run callerA [] s₁ H ⟨[.ref a],[]⟩ [.ref a] [.ref a] _ _ hr e0 (hbind s₁ (.ref a)) (.cons rfl .nil) (hsp H hO hS)) fun r s' h=>?_;cases r with
  |error e=>exact(hCX H e s' h).elim
  |ok fl=>
   cases fl with
   |next=>exact False.elim h
   |brk=>exact False.elim h
   |cont=>exact False.elim h
   |ret u=>
    obtain⟨v,H',os,bare,un,hok',r',q⟩:=h;have q':v=.bl true:=q;subst q';obtain rfl:u=Value.bool true:=r';refine⟨rfl,OldK.of_keep fun b o e=>?_,os,bare⟩;cases q:H b with
    |none=>exact un.keep b o e q (by intro z;exact absurd (show b∈([]:List Addr)from z) (by simp)) (by simp)
    |some u=>
     rcases hO b with z|⟨ob,xs,z⟩
     ·rw[q]at z;cases z
     ·have z2:=un.frzs b ob _ z;obtain⟨e1,_⟩:=hok b _ z;obtain⟨e2,_⟩:=hok' b _ z2;rw[e]at e1;cases e1;exact e2
 cases hk:K.lookup a with
 |some o=>have e:=KX a o hk;rw[ha]at e;cases e;refine core (fun _=>none) (fun _=>.inl rfl) (.inr ⟨_,vs.toArray,_,hk,rfl,rfl,rfl,by rw[uh,lenV];exact hl,by simpa using rv⟩) (fun b u z=>by have z':(none:Option HO)=some u:=z;cases z') (fun b z=>absurd rfl z) fun z=>absurd rfl z
 |none=>
  refine core (fun b=>if b=a then some (.frz {cls:=.type "list",data:=.seq vs.toArray} (.lst (ns.map V.int)))else none) (fun b=>?_) (.inl (.inr ⟨{cls:=.type "list",data:=.seq vs.toArray},tU rfl⟩)) (fun b u z=>?_) (fun b z=>?_) fun _=>hk
  ·by_cases hb:b=a
   ·exact .inr ⟨_,_,tU hb⟩
   ·exact .inl (tV hb)
  ·by_cases hb:b=a
   ·have z':=(tU hb).symm.trans z;cases z';subst hb;exact⟨ha,by rw[tX];exact hl,vs,_,rv,ha⟩
   ·have z':=(tV hb).symm.trans z;cases z'
  ·by_cases hb:b=a
   ·exact hb
   ·exact absurd (tV hb) z
noncomputable abbrev KOf{K:Frag}{h:Heap}(_:K.In h):Frag:=K
theorem oS{l:PySem.W.OpenLaw}{n k:Nat}{q:Program}{loose:List Str}{XP:(Str->Option Value)->Heap->Prop}{YP:World->Heap->Prop}{d:DefRec}{K:Params->Frag}{CX:World->CXT}{sp:World->Sp}{x:Str}
  (hn:l.most=some n) (hn2:n<=sizeLine) (hdf:d.params.defaults=[]) (hr:dv k callerA)
  (hY:∀(w:World)(h:Heap),YP w h->(K w.params).In h)
  (F:∀(w:World)(mg:Str->Option Value)(fa:Addr)(h:Heap),(K w.params).In h->h.Ns mainGlobals mg->mg d.name=some (.ref fa)->
   ∃fd:FuncData,(∀(s:Shared)(u:Value),BindsTo s fd ⟨[u],[]⟩ [(x,u)])/\
    ∀base:Heap,(K w.params).In base->base.Ns mainGlobals mg->jn l.prog w (K w.params) mg base (CX w) k fa fd [x] (sp w))
  (hsp:∀(w:World)(H:Hp)(a:Addr)(ns:List Int),ns.length<=n->qo H->SqL (K w.params) H a (ns.map V.int)->sp w [.ref a] H (fun v _=>v=.bl true) fun _ _ _=>False)
  (hCX:∀(w:World)(H:Hp)(s:Shared)(e:Value)(s':Shared),CX w [] H s (fun _ _ _=>False) e s'->False):
  PySem.W.WalkO q loose XP YP l.row.toRowW d [] (fun f vs=>PySem.call f vs):=by
 refine Att.kg hn hdf fun w s₀ s₁ mg mb fa o pm cd doc a vs ns G Y ho hd hcd hmg hobj hints hlen hg=>?_;have KX:=hY w _ Y;obtain⟨fd,hb,hF⟩:=F w mg fa _ KX G.T.g hmg;exact n4 KX G.T.g G.T.b G.T.builtins G.T.nolimit hg hobj hints (vk hlen hn2) hr hF hb (fun H hO hS=>hsp w H a ns hlen hO hS) fun H e s'=>hCX w H s₁ e s'
theorem m9{l:PySem.W.OpenLaw}{n k:Nat}{q:Program}{loose:List Str}{XP:(Str->Option Value)->Heap->Prop}{YP:World->Heap->Prop}{d:DefRec}{K:Params->Frag}{CX:CXT}{sp:Frag->Sp}{x:Str}
  (hn:l.most=some n) (hn2:n<=sizeLine) (hdf:d.params.defaults=[]) (hr:dv k callerA)
  (hY:∀(w:World)(h:Heap),YP w h->(K w.params).In h)
  (F:∀(w:World)(mg:Str->Option Value)(fa:Addr)(h:Heap),(K w.params).In h->h.Ns mainGlobals mg->mg d.name=some (.ref fa)->
   ∃fd:FuncData,(∀(s:Shared)(u:Value),BindsTo s fd ⟨[u],[]⟩ [(x,u)])/\
    ∀base:Heap,(K w.params).In base->base.Ns mainGlobals mg->jn l.prog w (K w.params) mg base CX k fa fd [x] (sp (K w.params)))
  (hsp:∀(K:Frag)(H:Hp)(a:Addr)(ns:List Int),ns.length<=n->qo H->SqL K H a (ns.map V.int)->sp K [.ref a] H (fun v _=>v=.bl true) fun _ _ _=>False)
  (hCX:∀(H:Hp)(s:Shared)(e:Value)(s':Shared),CX [] H s (fun _ _ _=>False) e s'->False):
  PySem.W.WalkO q loose XP YP l.row.toRowW d [] (fun f vs=>PySem.call f vs):=
 oS (K:=K) (CX:=fun _=>CX) (sp:=fun w=>sp (K w.params)) hn hn2 hdf hr hY F (fun w H a ns h1 h2 h3=>hsp (K w.params) H a ns h1 h2 h3) fun _ H s e s'=>hCX H s e s'
noncomputable def dC(s:Stmt):Arguments:=match s with
 | .FunctionDef _ a _ _ _ _ _ _ _ _=>a
 |_=>{posonlyargs:=[],args:=[],vararg:=none,kwonlyargs:=[],kw_defaults:=[],kwarg:=none,defaults:=[]}
noncomputable def cD(s:Stmt):List Stmt:=match s with
 | .FunctionDef _ _ b _ _ _ _ _ _ _=>b
 |_=>[]
noncomputable def av(s:Stmt):Scope:=match s with
 | .FunctionDef _ _ _ _ _ _ sc _ _ _=>sc
 |_=>{kind:=.function,names:=[],isGenerator:=false,isCoroutine:=false}
noncomputable abbrev CX0:CXT:=fun _ _ _ _ _ _=>False
noncomputable abbrev E0:XK:=fun _ _ _=>False
theorem su{X:Cx}:Passes CX0 X E0:=fun _ _ _ _ _ _ _ h=>h.elim
structure Fun(K:Frag)(x qual:Str)(st:Stmt)(f:Addr)(fd:FuncData):Prop where
 ex:∃(oc:Value)(od:Option Addr)(kV doc pm:Value)(an:Option Addr)(cdv ct:Value)(osl:Array (Option Value)),
  fd=fnOf x qual (dC st) (cD st) (av st) .none kV doc pm an cdv ct/\K.lookup f=some ⟨oc,od,.func fd,osl⟩/\codeIn K cdv qual=true
 kp:keepIn K (.ref f)=true
section
variable{P:Program}{w:World}{K:Frag}{mg:Str->Option Value}{base:Heap}
theorem Fun.ok{x qual:Str}{st:Stmt}{f:Addr}{fd:FuncData}{N ps:List Str}{k:Nat}{sp:Sp}(F:Fun K x qual st f fd)(S:aD N ps (av st))(len:∀vs H Q E,sp vs H Q E->vs.length=ps.length)
  (hbody:∀(cdv:Value)(A:Around)(outer:List Env)(s:Shared)(H:Hp)(vs:List V)(Q:VK)(E:XK),dv k (A.deeper (envOfC qual (av st) s.heap.objs.size f cdv))->sp vs H Q E->
   ∃t,PSs (kN CX0 P w K mg base N qual (av st) f cdv A outer s H E).nox (cD st) t/\t {nx:=fun _ H'=>Q .non H',rt:=Q} (start N vs) H):jn P w K mg base CX0 (k+1) f fd ps sp:=by
 obtain⟨oc,od,kV,doc,pm,an,cdv,ct,osl,rfl,lk,hcd⟩:=F.ex;refine sO lk hcd S len fun A outer s H vs Q E hr hsp=>?_;obtain⟨t,h,q⟩:=hbody cdv A outer s H vs Q E hr hsp;exact⟨t,h.nox,q⟩
theorem Fun.binds{x qual:Str}{st:Stmt}{f:Addr}{fd:FuncData}{ps:List Str}(F:Fun K x qual st f fd)
  (h:∀(kV doc pm:Value)(an:Option Addr)(cdv ct:Value)(us:List Value),us.length=ps.length->bindArgs (fnOf x qual (dC st) (cD st) (av st) .none kV doc pm an cdv ct) ⟨us,[]⟩=pure (ps.zip us)):Binds K fd ps []:=by
 obtain⟨oc,od,kV,doc,pm,an,cdv,ct,osl,rfl,lk,hcd⟩:=F.ex;exact .all (h kV doc pm an cdv ct)
theorem ou{x qual:Str}{st:Stmt}{f:Addr}{oc:Value}{od an:Option Addr}{osl:Array (Option Value)}{kV doc pm cdv ct:Value}(l:K.lookup f=some ⟨oc,od,.func (fnOf x qual (dC st) (cD st) (av st) .none kV doc pm an cdv ct),osl⟩)
 (c:codeIn K cdv qual=true) (k:keepIn K (.ref f)=true):Fun K x qual st f (fnOf x qual (dC st) (cD st) (av st) .none kV doc pm an cdv ct):=⟨⟨oc,od,kV,doc,pm,an,cdv,ct,osl,rfl,l,c⟩,k⟩
end
theorem a8{n:Nat}(h:n<=1000):n<sizeLine:=Nat.lt_of_le_of_lt h (by decide)
section
variable{X:Cx}
theorem pv(i:Nat){x:Str}{pos:Pos}(hN:X.N[i]?=some x:=by rfl)(hv:Vis X.env.scope x:=by first|exact Or.inl rfl|exact Or.inr (Or.inl rfl)|exact Or.inr (Or.inr rfl))(hd:(x==("__debug__":Str))=false:=by decide)
 (hcd:(x==("__classdict__":Str))=false:=by decide):PE X (.Name x pos) (rQ i):=qR hN hv hd hcd
end
theorem ro{A B:Prop}(h:B):if false=true then A else B:=by rw[tV tZ];exact h
theorem tJ{A B:Prop}(h:A):if true=true then A else B:=by rw[tU rfl];exact h
theorem bx{c A B:Prop}[Decidable c](h1:c->A)(h2:¬c->B):if c then A else B:=by
 by_cases h:c
 ·rw[tU h];exact h1 h
 ·rw[tV h];exact h2 h
def aq(H H':Hp):Prop:=∀b o,H b=some o->H' b=some o
theorem aq.refl(H:Hp):aq H H:=fun _ _ h=>h
theorem aq.trans{H H1 H2:Hp}(a:aq H H1)(b:aq H1 H2):aq H H2:=fun c o h=>b c o (a c o h)
theorem aq.seq{K:Frag}{H H':Hp}{a:Addr}{xs:List V}(e:aq H H')(h:SqL K H a xs):SqL K H' a xs:=by
 rcases h with(h|⟨o,h⟩)|h
 ·exact .inl (.inl (e _ _ h))
 ·exact .inl (.inr ⟨o,e _ _ h⟩)
 ·exact .inr h
section
variable{X:Cx}
noncomputable abbrev bo(X:Cx)(N':List Str)(scope:Scope)(cl:List (Str×Addr))(C:Addr)(ex:List Addr)(s:Shared)(H:Hp):Cx where
 prog:=X.prog
 w:=X.w
 K:=X.K
 mg:=X.mg
 base:=X.base
 A:=X.A
 N:=N'
 s₀:=s
 H₀:=H
 env:=compEnvC scope cl C X.env
 outer:=X.stack
 stack:=X.stack
 ex:=ex
 fn:=fun x=>(cl.lookup x).isNone
 calm:=X.calm
 pn:=[]
 xe:=fun _ _=>False
def oG(X:Cx)(ifs:List Expr)(t:TT):Prop:=
 ∀(pins:List (Addr×Obj))(s:Shared)(σ:St)(H:Hp)(Q:Bool->Hp->Prop),Inv X pins σ H s->t σ H Q->
  wpAny (model X.prog X.w) X.A (forIn ifs true fun c r=>if r=true then do let ok <-isTrue c X.env (eval c X.env);pure (ForInStep.yield ok)else pure (ForInStep.yield r)) (TP X pins σ Q) X.xe s
def sW:TT:=fun _ H Q=>Q true H
theorem gq:oG X [] sW:=fun _ _ _ H _ I h=>wpAny_tests_nil ⟨H,I,h⟩
theorem gp{c:Expr}{t:TT}(h:PT X c t):oG X [c] t:=fun pins s σ H Q I q=>wpAny_tests_one (h pins s σ H Q I q)
def Wk(σ σ2:St):Prop:=σ.length=σ2.length/\∀(i:Nat) v,σ[i]?=some (some v)->σ2[i]?=some (some v)
noncomputable def cu(n:Nat)(js:List Nat)(σ:St):St:=List.replicate n none++js.map fun j=>(σ[j]?).join
def qt(wi:TI)(g:TG)(tt:TT)(te:TE)(n:Nat)(js:List Nat):TE:=fun σ H Q=>wi σ H fun J H1=>∀D,H1 D=none->∃W:Nat->Nat->List V->Hp->Prop,(∃m,W 0 m [] (upd H1 D (.lst [])))/\∀i m acc H2,W i m acc H2->
 (J.stop i H2/\Q (.ref D) H2)\/(J.go i H2/\∃N:List V->Hp->Prop,(∀acc' H',N acc' H'->∃m',m'<m/\W (i+1) m' acc' H')/\∀x H3,J.yld i H2 x H3->g x (cu n js σ) H3 fun σ2 H4=>tt σ2 H4 fun b H5=>
  if b=true then te σ2 H5 fun y H6=>H6 D=some (.lst acc)/\acc.length<sizeLine/\N (acc++[y]) (upd H6 D (.lst (acc++[y])))else N acc H5)
theorem oj{pins:List (Addr×Obj)}{σ:St}{H:Hp}{s:Shared}{fp:List Addr}{scope:Scope}{cl:List (Str×Addr)}{own:List Str}{fr:List (Str×Nat)}{h1:Heap}{m0:Str->Option Value}{tk:Nat}
  (I:Inv X pins σ H s) (hf:∀b∈fp,fE X pins H b) (hlt:∀b∈fp,b<s.heap.objs.size) (hkind:scope.kind=.function)
  (hcl:∀x c,cl.lookup x=some c->X.env.cells.lookup x=some c)
  (hkin:∀x,((relabel scope X.env).names.lookup x=some .cell\/(relabel scope X.env).names.lookup x=some .free)->∃c,cl.lookup x=some c)
  (hfr:∀p∈fr,X.N[p.2]?=some p.1/\X.env.kindOf p.1=some .cell)
  (hvis:∀p∈fr,(relabel scope X.env).names.lookup p.1=some .cell)
  (hn:h1.Ns s.heap.objs.size m0) (kk:∀b u,s.heap.get? b=some u->h1.get? b=some u):
  Inv (bo X (own++fr.map (·.1)) scope cl s.heap.objs.size fp s H) [] (cu own.length (fr.map (·.2)) σ) H {s with heap:=h1,toks:=tk}:=by
 refine⟨⟨I.ok.mod,hkind,I.ok.glob,I.ok.blt,uc _,fun x y c e1 e2=>I.ok.inj x y c (hcl x c e1) (hcl y c e2),hkin,fun x c h e=>?_,I.ok.hd,I.ok.frames,.inl rfl,fun b hb=>?_,I.bs,vk I.ok.bsz I.sz,fun b o e hb=>?_,fun b hb z=>?_,I.stack,I.stkFree⟩,
  rfl,I.bare,Un.kept kk,⟨m0,hn,fun i x v e1 e2 e3=>?_⟩,fun x c e=>?_,I.hok.fresh (uc _),fun x c e=>I.freeC x c (hcl x c e),fun p hp=>absurd (show p∈([]:List (Addr×Obj))from hp) (by simp),I.hok.kept kk,?_⟩
 ·have h':(cl.lookup x).isNone=true:=h;have e':cl.lookup x=some c:=e;rw[e']at h';cases h'
 ·exact⟨uz (hlt b hb),fun x c e=>(hf b hb).2.2.2.2.1 x c (hcl x c e)⟩
 ·rcases (hf b hb).2.2.2.1 with z|z
  ·exact I.ok.noex b o e z
  ·exact absurd (ud (t9 (I.ok.bs b o e).1) z) (Nat.lt_irrefl _)
 ·rcases uy.mp (I.stkSub b z)with e|e
  ·exact(hf b hb).2.1 e
  ·exact(hf b hb).2.2.1 e
 ·have e1':(own++fr.map (·.1))[i]?=some x:=e1;have e2':(List.replicate own.length none++(fr.map (·.2)).map fun j=>(σ[j]?).join)[i]?=some (some v):=e2;by_cases hi:i<own.length
  ·rw[vH (by simpa using hi),List.getElem?_replicate]at e2';split at e2'<;>cases e2'
  ·rw[vC (by omega)]at e1';rw[vC (by simpa using hi)]at e2';simp only[List.length_replicate,uV,Option.map_map]at e1' e2';cases q:fr[i-own.length]? with
   |none=>rw[q]at e1';cases e1'
   |some p=>
    rw[q]at e1' e2';simp only[Option.map_some,Option.some.injEq]at e1' e2';subst e1';have hp:p∈fr:=uC q;obtain⟨m,_,hl⟩:=I.loc;have e3':σ[p.2]?=some (some v):=by
     cases z:σ[p.2]? with
     |none=>rw[Function.comp_apply,z]at e2';cases e2'
     |some y=>rw[Function.comp_apply,z]at e2';simp only[Option.join]at e2';rw[<-e2'];rfl
    obtain⟨u,r,l⟩:=hl p.2 p.1 v (hfr p hp).1 e3' (.inr (.inl (hfr p hp).2));refine⟨u,r,?_⟩;rcases l with⟨k,_⟩|⟨_,c,hc,z⟩
    ·rw[(hfr p hp).2]at k;cases k
    ·obtain⟨c',hc'⟩:=hkin p.1 (.inl (hvis p hp));have e4:=hcl _ _ hc';rw[hc]at e4;cases e4;obtain⟨o,ho,hd⟩:=z;exact .inr ⟨.inl (hvis p hp),c,hc',⟨o,kk _ _ ho,hd⟩⟩
 ·obtain⟨v,o,ho,hd⟩:=I.cell x c (hcl x c e);exact⟨v,o,kk _ _ ho,hd⟩
 ·show(cu own.length (fr.map (·.2)) σ).length=(own++fr.map (·.1)).length;simp[cu]
theorem jf{prog:Program}{w:World}{A:Around}{R:Result->Shared->Prop}{s:Shared}{elt target iter:Expr}{ifs:List Expr}{scope:Scope}{pos:Pos}{it acc:Value}{env:Env}(I:Nat->Shared->Prop)
  (turn:∀n s,I n s->wpAny (model prog w) A (pyNext it) (fun r s₁=>match r with
   |none=>R (.ok .next) s₁
   |some v=>wpAny (model prog w) A (letOwnedTupleGo target it v) (fun _ s₁'=>wpAny (model prog w) A (assign target env v) (fun _ s₂=>
    wpAny (model prog w) A (forIn ifs true fun c r=>if r=true then do let ok <-isTrue c env (eval c env);pure (ForInStep.yield ok)else pure (ForInStep.yield r)) (fun ok s₃=>
     if ok=true then wpAny (model prog w) A (eval elt env) (fun x s₄=>wpAny (model prog w) A (call (.builtin "list.append") [acc,x]) (fun _ s₅=>∃m,m<n/\I m s₅) (notedBy (model prog w) A env fun e s'=>R (.error e) s') s₄) (notedBy (model prog w) A env fun e s'=>R (.error e) s') s₃
     else ∃m,m<n/\I m s₃) (notedBy (model prog w) A env fun e s'=>R (.error e) s') s₂) (notedBy (model prog w) A env fun e s'=>R (.error e) s') s₁') (notedBy (model prog w) A env fun e s'=>R (.error e) s') s₁) (notedBy (model prog w) A env fun e s'=>R (.error e) s') s)
  (n:Nat) (h:I n s):
  codeAny (model prog w) A (.compLoop (.ListComp elt [⟨target,iter,ifs,0⟩] scope pos) 0 it acc env) R s:=by
 refine codeAny_loop rfl I (fun n s hI=>?_) n h;show wpAny _ A ((compTurn (.ListComp elt [⟨target,iter,ifs,0⟩] scope pos) 0 it acc env).onRaise (fun x=>do noteFrame x env;theTreesLotGoes x)) _ _ s;refine wpAny_noted ?_;rw[compTurn_list];refine tN (wpAny_standAt (tN (vc (turn n s hI) (fun r s₁ h₁=>?_) fun _ _ h'=>h')));cases r with
 |none=>exact tO h₁
 |some v=>
  refine tN (vc h₁ (fun _ s₁' h₁'=>?_) fun _ _ h'=>h');refine tN (vc h₁' (fun _ s₂ h₂=>tN (vc h₂ (fun ok s₃ h₃=>?_) fun _ _ h'=>h')) fun _ _ h'=>h');cases ok with
  |false=>exact tO ⟨rfl,h₃⟩
  |true=>exact tN (tN (vc h₃ (fun x s₄ h₄=>tN (vc h₄ (fun _ s₅ h₅=>tO (tO ⟨rfl,h₅⟩)) fun _ _ h'=>h')) fun _ _ h'=>h'))
theorem gH{elt tg iter:Expr}{ifs:List Expr}{scope:Scope}{pos:Pos}{g:TG}{tt:TT}{te:TE}{own:List Str}{fr:List (Str×Nat)}{cl:List (Str×Addr)}
  {pins:List (Addr×Obj)} {σ:St} {H:Hp} {s:Shared} {Q:VK} {it D:Addr} {fp:List Addr} {tn:Nat->Heap->Prop} {J:It} {W:Nat->Nat->List V->Hp->Prop} {m0:Nat} {RR:Value->Addr->Result->Shared->Prop}
  (hRR:∀(s6:Shared)(H5:Hp)(m:Str->Option Value),Inv X pins σ H5 s6->s6.heap.Ns s.heap.objs.size m->fE X pins H5 s.heap.objs.size->Q (.ref D) H5->RR (.ref D) s.heap.objs.size (.ok .next) s6)
  (hc:X.calm=true) (hkind:scope.kind=.function) (hnc:∀y∈scope.names,y.2≠ .cell)
  (hcl:∀x c,cl.lookup x=some c->X.env.cells.lookup x=some c)
  (hkin:∀x,((relabel scope X.env).names.lookup x=some .cell\/(relabel scope X.env).names.lookup x=some .free)->∃c,cl.lookup x=some c)
  (hfr:∀p∈fr,X.N[p.2]?=some p.1/\X.env.kindOf p.1=some .cell) (hvis:∀p∈fr,(relabel scope X.env).names.lookup p.1=some .cell)
  (hw:∀x σ H R,σ.length=own.length+fr.length->(∀(i:Nat),i<own.length->σ[i]?=some none)->g x σ H R->g x σ H fun σ2 H2=>Wk σ σ2/\R σ2 H2)
  (hg:∀C ex s H,PG (bo X (own++fr.map (·.1)) scope cl C ex s H) tg g)
  (ht:∀C ex s H,oG (bo X (own++fr.map (·.1)) scope cl C ex s H) ifs tt)
  (he:∀C ex s H,PE (bo X (own++fr.map (·.1)) scope cl C ex s H) elt te)
  (I:Inv X pins σ H s) (T:Turn X.prog X.w X.K tg J fp it tn) (st:tn 0 s.heap) (hf:∀b∈fp,fE X pins H b) (w0:W 0 m0 [] H)
  (turn:∀i m acc H2,W i m acc H2->(J.stop i H2/\Q (.ref D) H2)\/(J.go i H2/\∃N:List V->Hp->Prop,(∀acc' H',N acc' H'->∃m',m'<m/\W (i+1) m' acc' H')/\∀x H3,J.yld i H2 x H3->g x (cu own.length (fr.map (·.2)) σ) H3 fun σ2 H4=>tt σ2 H4 fun b H5=>if b=true then te σ2 H5 fun y H6=>H6 D=some (.lst acc)/\acc.length<sizeLine/\N (acc++[y]) (upd H6 D (.lst (acc++[y])))else N acc H5)):
  wpAny (model X.prog X.w) X.A (newFunctionEnv scope X.env.globals cl [] X.env.qual none .none (some X.env)) (fun cenv s₄=>
   codeAny (model X.prog X.w) X.A (.compStart (.ListComp elt [⟨tg,iter,ifs,0⟩] scope pos) 0 (.ref it) (.ref D) {cenv with scope:=relabel scope X.env})
    (RR (.ref D) cenv.locals) s₄) X.xe s:=by
 have hlt:∀b∈fp,b<s.heap.objs.size:=fun b hb=>by obtain⟨o,e,_⟩:=T.obj 0 _ st b hb;exact t9 e
 refine wpAny_newFunctionEnv hnc (by intro y hy;simp at hy) (fun h₁ hns hsb=>?_) hkind;have kk:∀b u,s.heap.get? b=some u->h₁.get? b=some u:=fun b u e=>(hsb.2 b (uz (t9 e))).trans (tR _ e);have I4:Inv (bo X (own++fr.map (·.1)) scope cl s.heap.objs.size fp s H) [] (cu own.length (fr.map (·.2)) σ) H {s with heap:=h₁,toks:=s.toks+([]:List (Str×Value)).length}:=
  oj I hf hlt hkind hcl hkin hfr hvis hns kk
 have st4:tn 0 h₁:=T.keep _ _ _ st fun b _ o e=>kk b o e;have hσ:(cu own.length (fr.map (·.2)) σ).length=own.length+fr.length:=by simp[cu]
 have hσ0:∀(i:Nat),i<own.length->(cu own.length (fr.map (·.2)) σ)[i]?=some none:=fun i hi=>by unfold cu;rw[vH (by simpa using hi),List.getElem?_replicate,tU hi]
 have stat:∀{H':Hp},(∀b∈fp,H' b=none)->∀b∈fp,fE (bo X (own++fr.map (·.1)) scope cl s.heap.objs.size fp s H) [] H' b:=fun hn b hb=>⟨hn b hb,uz (hlt b hb),fun z=>(uy.mp (I.stkSub b z)).elim (hf b hb).2.1 (hf b hb).2.2.1,.inl hb,fun x c e=>(hf b hb).2.2.2.2.1 x c (hcl x c e),fun p hp=>absurd (show p∈([]:List (Addr×Obj))from hp) (by simp)⟩
 have loop:∀s4:Shared,s4={s with heap:=h₁,toks:=s.toks+([]:List (Str×Value)).length}->
   codeAny (model X.prog X.w) X.A (.compLoop (.ListComp elt [⟨tg,iter,ifs,0⟩] scope pos) 0 (.ref it) (.ref D) (compEnvC scope cl s.heap.objs.size X.env))
    (RR (.ref D) s.heap.objs.size) s4:=by
  rintro s4 rfl;refine jf (fun n s'=>∃i acc H',Inv (bo X (own++fr.map (·.1)) scope cl s.heap.objs.size fp s H) [] (cu own.length (fr.map (·.2)) σ) H' s'/\tn i s'.heap/\(∀b∈fp,H' b=none)/\W i n acc H') ?_ m0
   ⟨0,[],H,I4,st4,fun b hb=>(hf b hb).1,w0⟩
  rintro n s5 ⟨i,acc,H5,I5,st5,fr5,w5⟩;rcases turn i n acc H5 w5 with⟨stop,q⟩|⟨go,N,hN,step⟩
  ·refine vc (T.done (bo X (own++fr.map (·.1)) scope cl s.heap.objs.size fp s H) rfl rfl rfl hc i [] s5 _ H5 _ I5 (stat fr5) st5 stop) (fun r s6 ⟨hr,I6⟩=>?_) (fun _ _ z=>z);subst hr;obtain⟨m6,hn6,_⟩:=id I6.loc;have I7:Inv X pins σ H5 s6:=I.call' (ch:=fp) I6.os I6.base I6.hok I6.bare (fun b hb=>⟨(hf b hb).2.2.2.1,(hf b hb).2.1,(hf b hb).2.2.2.2.1,(hf b hb).2.2.2.2.2⟩);exact hRR s6 H5 m6 I7 hn6 (I.fpOk (H':=H5) (uc _) I6.free) q
  ·refine vc (T.item (bo X (own++fr.map (·.1)) scope cl s.heap.objs.size fp s H) rfl rfl rfl hc i [] s5 _ H5 _ I5 (stat fr5) st5 go) (fun r s6 hPz=>?_) (fun _ _ z=>z);obtain⟨u,hr,h6⟩:=hPz;subst hr;refine vc h6 (fun _ s7 hPz=>?_) (fun _ _ z=>z);obtain⟨x,H7,I7,r7,y7,st7,fr7⟩:=hPz;have I7':=I7.pinned (stat fr7) (T.obj _ _ st7);refine vc (hg s.heap.objs.size fp s H _ s7 _ H7 x u _ I7' r7 (hw x _ H7 _ hσ hσ0 (step x H7 y7))) (fun _ s8 hPz=>?_) (fun _ _ z=>False.elim z);obtain⟨σ8,H8,I8,wk,q8⟩:=hPz;have again:∀{s10:Shared}{H10:Hp}{acc':List V},Inv (bo X (own++fr.map (·.1)) scope cl s.heap.objs.size fp s H) ([]++gn fp s7.heap) σ8 H10 s10->N acc' H10->
     ∃m,m<n/\∃i acc H',Inv (bo X (own++fr.map (·.1)) scope cl s.heap.objs.size fp s H) [] (cu own.length (fr.map (·.2)) σ) H' s10/\tn i s10.heap/\(∀b∈fp,H' b=none)/\W i m acc H':=fun {s10 H10 acc'} I10 n10=>by
    obtain⟨m',hm,w10⟩:=hN acc' H10 n10;refine⟨m',hm,i+1,acc',H10,I10.unpinned.weak wk.1 wk.2,T.keep _ _ _ st7 fun b hb o e=>(I10.pin (b,o) (ux _ (ux _ (dB hb e)))).1,fun b hb=>?_,w10⟩;obtain⟨o,e,d⟩:=T.obj _ _ st7 b hb;exact(I10.pin (b,o) (ux _ (ux _ (dB hb e)))).2.1
   refine vc (ht s.heap.objs.size fp s H _ s8 σ8 H8 _ I8 q8) (fun b s9 hPz=>?_) (fun _ _ z=>False.elim z);obtain⟨H9,I9,q9⟩:=hPz;cases b with
   |false=>exact again I9 q9
   |true=>refine vc (he s.heap.objs.size fp s H _ s9 σ8 H9 _ I9 q9) (fun y s10 hPz=>?_) (fun _ _ z=>False.elim z);obtain⟨yv,H10,I10,r10,hD,hl,n10⟩:=hPz;refine vc (cJ (X:=bo X (own++fr.map (·.1)) scope cl s.heap.objs.size fp s H) _ s10 σ8 H10 (.ref D) [yv] (.ref D) [y] (fun _ H'=>H'=upd H10 D (.lst (acc++[yv]))) I10 rfl (.cons r10 .nil) ⟨D,acc,yv,rfl,rfl,hD,hl,rfl⟩) (fun _ s11 hPz=>?_) (fun _ _ z=>False.elim z);obtain⟨_,H11,I11,_,e11⟩:=hPz;subst e11;exact again I11 n10
 exact codeAny_compStart_list (loop _ rfl) (T.self _ 0 _ _ _ st4 (loop _ rfl))
theorem dU{elt tg iter:Expr}{ifs:List Expr}{scope:Scope}{pos:Pos}{wi:TI}{g:TG}{tt:TT}{te:TE}(own:List Str)(fr:List (Str×Nat))(cl:List (Str×Addr))
  (hc:X.calm=true) (hclos:closureFor scope X.env=pure cl) (hkind:scope.kind=.function) (hnc:∀y∈scope.names,y.2≠ .cell)
  (hnames:∀y∈scope.names,y.2=.local->scope.names.lookup y.1=some .local)
  (hcl:∀x c,cl.lookup x=some c->X.env.cells.lookup x=some c)
  (hkin:∀x,((relabel scope X.env).names.lookup x=some .cell\/(relabel scope X.env).names.lookup x=some .free)->∃c,cl.lookup x=some c)
  (hfr:∀p∈fr,X.N[p.2]?=some p.1/\X.env.kindOf p.1=some .cell) (hvis:∀p∈fr,(relabel scope X.env).names.lookup p.1=some .cell)
  (hw:∀x σ H R,σ.length=own.length+fr.length->(∀(i:Nat),i<own.length->σ[i]?=some none)->g x σ H R->g x σ H fun σ2 H2=>Wk σ σ2/\R σ2 H2)
  (hi:PI X tg iter wi)
  (hg:∀C ex s H,PG (bo X (own++fr.map (·.1)) scope cl C ex s H) tg g)
  (ht:∀C ex s H,oG (bo X (own++fr.map (·.1)) scope cl C ex s H) ifs tt)
  (he:∀C ex s H,PE (bo X (own++fr.map (·.1)) scope cl C ex s H) elt te)
  (hs:∀x,foldedSetIterable iter X.env x=pure x:=by intro _;rfl):
  PE X (.ListComp elt [⟨tg,iter,ifs,0⟩] scope pos) (qt wi g tt te own.length (fr.map (·.2))):=by
 intro pins s σ H Q I h;rw[eval_ListComp];refine wpAny_comprehension_free (use:=none) rfl hs hclos hkind hnames (thn (hi pins s σ H _ I h) fun v s1 h1=>thn h1 fun itv s2 h2=>?_);obtain⟨it,fp,tn,J,H2,e,I2,T,st2,f2,h2⟩:=h2;subst e;obtain⟨W,⟨m0,w0⟩,turn⟩:=h2 s2.heap.objs.size I2.fresh;have I3:=I2.lnew (its:=[]) (ys:=[]) (t':=s2.toks) .nil (uJ _);refine vO (T:="list") ?_;refine gH (RR:=fun acc C=>compPost (model X.prog X.w) X.A X.xe none (EP X pins σ Q) acc C) (W:=W) (m0:=m0) (D:=s2.heap.objs.size) (own:=own) (fr:=fr)
  (fun s6 H5 m I7 hn fc q=>⟨m,hn,fun h7 sb=>⟨.ref s2.heap.objs.size,H5,I7.turned (t':=s6.toks) (fun b o hb e=>(sb.2 b hb).trans e) fc.1 fc.2.1 fc.2.2.2.1 fc.2.2.2.2.1 fc.2.2.2.2.2,rfl,q⟩⟩) hc hkind hnc hcl hkin hfr hvis hw hg ht he I3 T (T.keep _ _ _ st2 fun b _ o e=>tR _ e) (fun b hb=>?_) w0 turn
 obtain⟨o,e,_⟩:=T.obj _ _ st2 b hb;exact⟨by rw[ax (uz (t9 e))];exact(f2 b hb).1,(f2 b hb).2⟩
theorem pj{elt tg iter:Expr}{ifs:List Expr}{scope:Scope}{pos spos py:Pos}{y:Str}{i:Nat}{wi:TI}{g:TG}{tt:TT}{te:TE}(hN:X.N.Nodup)(hiy:X.N[i]?=some y)(hy:Loc X.env.scope y)(own:List Str)(fr:List (Str×Nat))(cl:List (Str×Addr))
  (hc:X.calm=true) (hclos:closureFor scope X.env=pure cl) (hkind:scope.kind=.function) (hnc:∀y∈scope.names,y.2≠ .cell)
  (hnames:∀y∈scope.names,y.2=.local->scope.names.lookup y.1=some .local)
  (hcl:∀x c,cl.lookup x=some c->X.env.cells.lookup x=some c)
  (hkin:∀x,((relabel scope X.env).names.lookup x=some .cell\/(relabel scope X.env).names.lookup x=some .free)->∃c,cl.lookup x=some c)
  (hfr:∀p∈fr,X.N[p.2]?=some p.1/\X.env.kindOf p.1=some .cell) (hvis:∀p∈fr,(relabel scope X.env).names.lookup p.1=some .cell)
  (hw:∀x σ H R,σ.length=own.length+fr.length->(∀(i:Nat),i<own.length->σ[i]?=some none)->g x σ H R->g x σ H fun σ2 H2=>Wk σ σ2/\R σ2 H2)
  (hi:PI X tg iter wi)
  (hg:∀C ex s H,PG (bo X (own++fr.map (·.1)) scope cl C ex s H) tg g)
  (ht:∀C ex s H,oG (bo X (own++fr.map (·.1)) scope cl C ex s H) ifs tt)
  (he:∀C ex s H,PE (bo X (own++fr.map (·.1)) scope cl C ex s H) elt te)
  (hsw:swapsWith (.ListComp elt [⟨tg,iter,ifs,0⟩] scope pos) (some (.Name y py)) spos.line X.env=pure true:=by rfl)
  (hs:∀x,foldedSetIterable iter X.env x=pure x:=by intro _;rfl)
  (hf:X.fn y=true\/X.env.scope.names.lookup y=some .local:=by first|exact .inl rfl|exact .inr rfl|assumption):
  PS X (.Assign [.Name y py] (.ListComp elt [⟨tg,iter,ifs,0⟩] scope pos) spos) (rZ (qt wi g tt te own.length (fr.map (·.2))) (eF i)):=by
 intro pins s σ H D I h;rw[exec_Assign_Name_used _ _ _ _ hsw];refine tN (wpAny_standAt (tN ?_));show wpAny _ _ (do let _ <-comprehension (.ListComp elt [⟨tg,iter,ifs,0⟩] scope pos) scope X.env _ (newList []) false (eval iter X.env) (some (assign (.Name y py) X.env))) _ _ s;refine tN (vc (wpAny_comprehension_free (use:=some (assign (.Name y py) X.env)) (Q:=fun _ s'=>SP X pins D .next s') rfl hs hclos hkind hnames (thn (hi pins s σ H _ I h) fun v s1 h1=>thn h1 fun itv s2 h2=>?_)) (fun _ s' hq=>tO (tO hq)) fun _ _ e=>e);obtain⟨it,fp,tn,J,H2,e,I2,T,st2,f2,h2⟩:=h2;subst e;obtain⟨W,⟨m0,w0⟩,turn⟩:=h2 s2.heap.objs.size I2.fresh;have I3:=I2.lnew (its:=[]) (ys:=[]) (t':=s2.toks) .nil (uJ _);refine vO (T:="list") ?_;refine gH (Q:=fun v H5=>eF i v σ H5 D.nx) (RR:=fun acc C=>compPost (model X.prog X.w) X.A X.xe (some (assign (.Name y py) X.env)) (fun _ s'=>SP X pins D .next s') acc C) (W:=W) (m0:=m0) (D:=s2.heap.objs.size) (own:=own) (fr:=fr)
  (fun s6 H5 m I7 hn fc q=>?_) hc hkind hnc hcl hkin hfr hvis hw hg ht he I3 T (T.keep _ _ _ st2 fun b _ o e=>tR _ e) (fun b hb=>?_) w0 turn
 ·show wpAny _ _ (assign (.Name y py) X.env (.ref s2.heap.objs.size)) _ _ _;refine wpAny_assign_Name (g0 (v:=.ref s2.heap.objs.size) I7 hN hiy hy rfl (fun s' I' hsb=>?_) hf);obtain⟨a,sb,ha⟩:=hsb;have hne:s2.heap.objs.size+1≠a\/True:=.inr trivial;have hCa:a≠({s2 with heap:=s2.heap.push {cls:=.type "list",data:=.seq ([]:List Value).toArray},toks:=s2.toks}:Shared).heap.objs.size:=by
   rcases ha with rfl|ha
   ·exact Ne.symm fc.2.1
   ·exact fc.2.2.2.2.1 y a ha
  refine⟨m,hn.sameBut sb (Ne.symm hCa),fun h7 sb7=>?_⟩;exact⟨_,H5,I'.turned (t':=s'.toks) (fun b o hb e=>(sb7.2 b hb).trans e) fc.1 fc.2.1 fc.2.2.2.1 fc.2.2.2.2.1 fc.2.2.2.2.2,q⟩
 ·obtain⟨o,e,_⟩:=T.obj _ _ st2 b hb;exact⟨by rw[ax (uz (t9 e))];exact(f2 b hb).1,(f2 b hb).2⟩
noncomputable def gK(env:Env)(xs:List Str):List (Str×Addr):=xs.map fun x=>(x,(env.cells.lookup x).getD 0)
noncomputable def qz(names:List (Str×NameKind))(xs:List Str):Bool:=names.all fun p=>(!(decide (p.2=.cell))&& !(decide (p.2=.free)))||decide (p.1∈xs)
theorem fM{env:Env}:∀{xs:List Str}{x:Str},x∈xs->∃c,(gK env xs).lookup x=some c
 | [],_,h=>absurd h (by simp)
 |y::xs,x,h=>by
  show ∃c,List.lookup x ((y,(env.cells.lookup y).getD 0)::gK env xs)=some c;rw[List.lookup_cons];cases e:x==y with
  |true=>exact⟨_,rfl⟩
  |false=>
   rcases uy.mp h with rfl|h
   ·rw[beq_self_eq_true]at e;cases e
   ·exact fM h
theorem bP{env:Env}:∀{xs:List Str},(xs.all fun x=>(env.cells.lookup x).isSome)=true->∀x c,(gK env xs).lookup x=some c->env.cells.lookup x=some c
 | [],_,x,c,h=>by cases h
 |y::xs,ha,x,c,h=>by
  rw[List.all_cons,va]at ha;have h':List.lookup x ((y,(env.cells.lookup y).getD 0)::gK env xs)=some c:=h;rw[List.lookup_cons]at h';cases e:x==y with
  |true=>
   rw[e]at h';have exy:x=y:=eq_of_beq e;subst exy;have hc:(env.cells.lookup x).getD 0=c:=vn h';cases q:env.cells.lookup x with
   |none=>rw[q]at ha;cases ha.1
   |some z=>rw[q]at hc;rw[<-hc];rfl
  |false=>rw[e]at h';exact bP ha.2 x c h'
theorem fz{names:List (Str×NameKind)}{xs:List Str}{env:Env}(h:qz names xs=true):∀x,(names.lookup x=some .cell\/names.lookup x=some .free)->∃c,(gK env xs).lookup x=some c:=fun x hx=>by
 refine fM ?_;unfold qz at h;rw[List.all_eq_true]at h;rcases hx with hx|hx
 ·have:=h _ (vA hx);simpa using this
 ·have:=h _ (vA hx);simpa using this
theorem eS{n m i:Nat}(hi:i<n):∀x σ H R,σ.length=n+m->(∀(k:Nat),k<n->σ[k]?=some none)->eF i x σ H R->eF i x σ H fun σ2 H2=>Wk σ σ2/\R σ2 H2:=fun x σ H R _ h0 h=>
 ⟨⟨by simp,fun k v e=>by
  by_cases hk:k=i
  ·subst hk;rw[h0 _ hi]at e;cases e
  ·rw[List.getElem?_set_ne (Ne.symm hk)];exact e⟩,h⟩
theorem gG{n:Nat}{g:TG}{tt:TT}{te:TE}{σ0:St}{lo:Int}{Q:VK}{D:Addr}{H:Hp}(Pv:Nat->List V->Hp->Prop)(h0:Pv 0 [] H)
  (hs:∀i acc H2,i<n->Pv i acc H2->g (.int (lo+i)) σ0 H2 fun σ2 H4=>tt σ2 H4 fun b H5=>if b=true then te σ2 H5 fun y H6=>H6 D=some (.lst acc)/\acc.length<sizeLine/\Pv (i+1) (acc++[y]) (upd H6 D (.lst (acc++[y])))else Pv (i+1) acc H5)
  (hd:∀acc H2,Pv n acc H2->Q (.ref D) H2):
  ∃W:Nat->Nat->List V->Hp->Prop,(∃m,W 0 m [] H)/\∀i m acc H2,W i m acc H2->
   ((Itr lo n).stop i H2/\Q (.ref D) H2)\/((Itr lo n).go i H2/\∃N:List V->Hp->Prop,(∀acc' H',N acc' H'->∃m',m'<m/\W (i+1) m' acc' H')/\∀x H3,(Itr lo n).yld i H2 x H3->g x σ0 H3 fun σ2 H4=>tt σ2 H4 fun b H5=>if b=true then te σ2 H5 fun y H6=>H6 D=some (.lst acc)/\acc.length<sizeLine/\N (acc++[y]) (upd H6 D (.lst (acc++[y])))else N acc H5):=by
 refine⟨fun i m acc H=>m=n-i/\i<=n/\Pv i acc H,⟨n,by simp,uJ _,h0⟩,?_⟩;rintro i m acc H2 ⟨rfl,hi,p⟩;by_cases hlt:i<n
 ·refine .inr ⟨hlt,Pv (i+1),fun acc' H' p'=>⟨n-(i+1),by omega,rfl,hlt,p'⟩,fun x H3 y=>?_⟩;obtain⟨e,y⟩:=y;subst e y;exact hs i acc _ hlt p
 ·have e:i=n:=by omega
  subst e;exact .inl ⟨uc _,hd acc H2 p⟩
theorem mY{K:Frag}{a:Addr}{xs:List V}{g:TG}{tt:TT}{te:TE}{σ0:St}{Q:VK}{D:Addr}{H:Hp}(Pv:Nat->List V->Hp->Prop)(h0:Pv 0 [] H)(hl:∀i acc H,i<=xs.length->Pv i acc H->SqL K H a xs)
  (hs:∀i x acc H2,xs[i]?=some x->Pv i acc H2->g x σ0 H2 fun σ2 H4=>tt σ2 H4 fun b H5=>if b=true then te σ2 H5 fun y H6=>H6 D=some (.lst acc)/\acc.length<sizeLine/\Pv (i+1) (acc++[y]) (upd H6 D (.lst (acc++[y])))else Pv (i+1) acc H5)
  (hd:∀acc H2,Pv xs.length acc H2->Q (.ref D) H2):
  ∃W:Nat->Nat->List V->Hp->Prop,(∃m,W 0 m [] H)/\∀i m acc H2,W i m acc H2->
   ((Itl K a).stop i H2/\Q (.ref D) H2)\/((Itl K a).go i H2/\∃N:List V->Hp->Prop,(∀acc' H',N acc' H'->∃m',m'<m/\W (i+1) m' acc' H')/\∀x H3,(Itl K a).yld i H2 x H3->g x σ0 H3 fun σ2 H4=>tt σ2 H4 fun b H5=>if b=true then te σ2 H5 fun y H6=>H6 D=some (.lst acc)/\acc.length<sizeLine/\N (acc++[y]) (upd H6 D (.lst (acc++[y])))else N acc H5):=by
 refine⟨fun i m acc H=>m=xs.length-i/\i<=xs.length/\Pv i acc H,⟨xs.length,by simp,uJ _,h0⟩,?_⟩;rintro i m acc H2 ⟨rfl,hi,p⟩;have q:=hl i acc H2 hi p;by_cases hlt:i<xs.length
 ·refine .inr ⟨⟨xs,xs[i],q,by simp[hlt]⟩,Pv (i+1),fun acc' H' p'=>⟨xs.length-(i+1),by omega,rfl,hlt,p'⟩,fun x H3 y=>?_⟩;obtain⟨e,y⟩:=y;subst e;exact hs i x acc _ (y xs q) p
 ·have e:i=xs.length:=by omega
  subst e;exact .inl ⟨⟨xs,q,uc _⟩,hd acc H2 p⟩
end
mutual
inductive IsD(K:Frag)(H:Hp):PyData->V->Prop
 |non:IsD K H .none .non
 |bl (b:Bool):IsD K H (.bool b) (.bl b)
 |int (i:Int):IsD K H (.int i) (.int i)
 |str (x:Str):IsD K H (.str x) (.str x)
 |tup {a:Addr} {vs:List V} {ds:List PyData}:SqT K H a vs->fC K H ds vs->IsD K H (.tuple ds) (.ref a)
 |lst {a:Addr} {vs:List V} {ds:List PyData}:SqL K H a vs->fC K H ds vs->IsD K H (.list ds) (.ref a)
inductive fC(K:Frag)(H:Hp):List PyData->List V->Prop
 |nil:fC K H [] []
 |cons {d:PyData} {v:V} {ds:List PyData} {vs:List V}:IsD K H d v->fC K H ds vs->fC K H (d::ds) (v::vs)
end
section
variable{X:Cx}{pins:List (Addr×Obj)}{σ:St}{H:Hp}{s:Shared}
mutual
theorem IsD.reads(I:Inv X pins σ H s):∀{d:PyData}{v:V}{u:Value},IsD X.K H d v->RelV v u->∃as,Reads s.heap u d as
 |_,_,_,.non,r=>by cases r;exact⟨_,.none⟩
 |_,_,_,.bl b,r=>by cases r;exact⟨_,.bool b⟩
 |_,_,_,.int i,r=>by obtain⟨t,rfl⟩:=r;exact⟨_,.int i t⟩
 |_,_,_,.str x,r=>by obtain⟨t,rfl⟩:=r;exact⟨_,.str x t⟩
 |_,_,_,.tup h1 h2,r=>by cases r;obtain⟨its,rv,⟨o,e,c,n,d⟩,hz⟩:=I.tuple h1;obtain⟨as,ra⟩:=fC.reads I h2 rv;exact⟨_,.tuple e c d (by simpa using ra)⟩
 |_,_,_,.lst h1 h2,r=>by cases r;obtain⟨its,rv,pl,hz⟩:=I.list h1;obtain⟨o,e,c,n,d⟩:=pl.isList;obtain⟨as,ra⟩:=fC.reads I h2 rv;exact⟨_,.list e c d (by simpa using ra)⟩
theorem fC.reads(I:Inv X pins σ H s):∀{ds:List PyData}{vs:List V}{us:List Value},fC X.K H ds vs->Vals vs us->∃as,ReadsAll s.heap us ds as
 |_,_,_,.nil,.nil=>⟨_,.nil⟩
 |_,_,_,.cons h t,.cons r rs=>by obtain⟨as,ra⟩:=IsD.reads I h r;obtain⟨bs,rb⟩:=fC.reads I t rs;exact⟨_,.cons ra rb⟩
end
noncomputable def sf(K:Frag):R2:=fun x y H Q=>∃d1 d2,IsD K H d1 x/\IsD K H d2 y/\d1.canLay0=true/\d2.canLay0=true/\d2.depth<=50/\Q (.bl (!PyData.eqv d1 d2)) H
theorem iR(hu:X.A.units+64<cLine):OpR X (compareOp .NotEq) (sf X.K):=by intro pins s σ H x y v u Q I rx ry h;obtain⟨d1,d2,h1,h2,c1,c2,hd,q⟩:=h;obtain⟨as,ra⟩:=IsD.reads I h1 rx;obtain⟨bs,rb⟩:=IsD.reads I h2 ry;exact SeqAt.rcNeAt_reads ra rb c1 c2 (by omega) _ _ _ _ (show EP X pins σ Q _ s from⟨.bl _,H,I,rfl,q⟩)
def sk:V->List V->Hp->VK->Prop:=fun x xs H Q=>∃i,x=.int i/\xs=[]/\Q (.int (Builtin.Int.intBits i:Nat)) H
theorem pK:MtR X "int.bit_length" sk:=by intro pins s σ H x xs v us Q I rx rv h;obtain⟨i,rfl,rfl,q⟩:=h;cases rv;obtain⟨t,rfl⟩:=rx;exact call_int_bit_length ⟨.int _,H,I.tok _,⟨_,rfl⟩,q⟩
def tE(K:Frag):List V->Hp->VK->Prop:=fun xs H Q=>∃x n t b,xs=[x,.ty n]/\dF K H x t/\kitOne K t (.type n)=some b/\Q (.bl b) H
theorem kf:dJ X (.builtin "isinstance") (tE X.K):=by
 intro pins s σ H xs us Q I rs h;obtain⟨x,n,t,b,rfl,ty,e,q⟩:=h;cases rs with
 |cons r rr=>
  cases rr with
  |cons r2 rr=>cases rr;cases r2;exact mV I r ty e fun tk=>⟨.bl b,H,I.tok _,rfl,q⟩
structure Df(P:Program)(w:World)(K:Frag)(mg:Str->Option Value)(base:Heap)(k:Nat)(x:Str)(ps:List Str)(sp:Sp):Prop where
 ex:∃f fd,jn P w K mg base CX0 k f fd ps sp/\Binds K fd ps []/\mg x=some (.ref f)/\keepIn K (.ref f)=true
structure Tx(K:Frag)(mg:Str->Option Value)(x:Str)(st:Stmt)(ps:List Str):Prop where
 ex:∃f fd,Fun K x x st f fd/\Binds K fd ps []/\mg x=some (.ref f)
theorem Tx.df{P:Program}{w:World}{K:Frag}{mg:Str->Option Value}{base:Heap}{x:Str}{st:Stmt}{N ps:List Str}{k:Nat}{sp:Sp}(T:Tx K mg x st ps)(S:aD N ps (av st))
  (len:∀vs H Q E,sp vs H Q E->vs.length=ps.length)
  (hbody:∀(f:Addr)(cdv:Value)(A:Around)(outer:List Env)(s:Shared)(H:Hp)(vs:List V)(Q:VK)(E:XK),dv k (A.deeper (envOfC x (av st) s.heap.objs.size f cdv))->sp vs H Q E->
   ∃t,PSs (kN CX0 P w K mg base N x (av st) f cdv A outer s H E).nox (cD st) t/\t {nx:=fun _ H'=>Q .non H',rt:=Q} (start N vs) H):Df P w K mg base (k+1) x ps sp:=by
 obtain⟨f,fd,F,b,hm⟩:=T.ex;exact⟨f,fd,F.ok S len fun cdv A outer s H vs Q E hr h=>hbody f cdv A outer s H vs Q E hr h,b,hm,F.kp⟩
def tCF(sp:Sp)(t:TA):TE:=fun σ H Q=>t σ H fun vs H1=>sp vs H1 Q E0
theorem aH{j k:Nat}{x:Str}{ps:List Str}{sp:Sp}{p pos:Pos}{e:Expr}{es:List Expr}{t:TA}(D:Df X.prog X.w X.K X.mg X.base j x ps sp)(hr:dv k X.A)(ha:PA X (e::es) t)(hg:Gl X x:=by rfl)(hj:j<=k:=by decide)
  (hdb:(x==("__debug__":Str))=false:=by decide) (he:starEach (e::es) X.env=(false,eval e X.env)::starEach es X.env:=by rfl) (hpl:(backTo pos (starEach es X.env)).any (·.1)=false:=by rfl):
  PE X (.Call (.Name x p) (e::es) [] pos) (tCF sp t):=by
 obtain⟨f,fd,F,b,hm,kp⟩:=D.ex;have h:=pD (ds:=[]) (dvs:=[]) (E:=E0) (p:=p) (pos:=pos) F (hr.mono hj) hg hm kp b .nil su ha hdb he hpl;have e1:nj sp [] E0 t=tCF sp t:=by funext σ H Q;unfold nj tCF;simp only[uN]
 rw[e1]at h;exact h
structure Bn(mg:Str->Option Value):Prop where
 len:mg "len"=none
 range:mg "range"=none
 isinstance:mg "isinstance"=none
 int:mg "int"=none
 bool:mg "bool"=none
 list:mg "list"=none
 tuple:mg "tuple"=none
 str:mg "str"=none
 dict:mg "dict"=none
 sorted:mg "sorted"=none
 enumerate:mg "enumerate"=none
 min:mg "min"=none
 max:mg "max"=none
 set:mg "set"=none
theorem aq.upd{H:Hp}{a:Addr}{o:HO}(h:H a=none):aq H (upd H a o):=fun b u e=>by rw[ax (bN e h)];exact e
theorem aq.tup{K:Frag}{H H':Hp}{a:Addr}{xs:List V}(e:aq H H')(h:SqT K H a xs):SqT K H' a xs:=by
 rcases h with(h|⟨o,h⟩)|h
 ·exact .inl (.inl (e _ _ h))
 ·exact .inl (.inr ⟨o,e _ _ h⟩)
 ·exact .inr h
end
theorem rO{K:Frag}{h:Heap}{mg:Str->Option Value}{x:Str}{st:Stmt}{ps:List Str}{f:Addr}{oc:Value}{od an:Option Addr}{osl:Array (Option Value)}{kV doc pm cdv ct:Value}(X:K.In h)(G:h.Ns mainGlobals mg)
  (a:nsIn K mainGlobals x=some (some (.ref f)))
  (l:K.lookup f=some ⟨oc,od,.func (fnOf x x (dC st) (cD st) (av st) .none kV doc pm an cdv ct),osl⟩)
  (c:codeIn K cdv x=true) (k:keepIn K (.ref f)=true)
  (hb:∀(kV doc pm:Value)(an:Option Addr)(cdv ct:Value)(us:List Value),us.length=ps.length->bindArgs (fnOf x x (dC st) (cD st) (av st) .none kV doc pm an cdv ct) ⟨us,[]⟩=pure (ps.zip us)):Tx K mg x st ps:=
 ⟨f,_,ou l c k,(ou l c k).binds hb,PySem.W.mg_of X G a⟩
theorem sU{K:Frag}{h:Heap}{mg:Str->Option Value}(X:K.In h)(G:h.Ns mainGlobals mg)
  (z0:nsIn K mainGlobals "len"=some none) (z1:nsIn K mainGlobals "range"=some none) (z2:nsIn K mainGlobals "isinstance"=some none)
  (z3:nsIn K mainGlobals "int"=some none) (z4:nsIn K mainGlobals "bool"=some none) (z5:nsIn K mainGlobals "list"=some none) (z6:nsIn K mainGlobals "tuple"=some none)
  (z7:nsIn K mainGlobals "str"=some none) (z8:nsIn K mainGlobals "dict"=some none) (z9:nsIn K mainGlobals "sorted"=some none) (z10:nsIn K mainGlobals "enumerate"=some none)
  (z11:nsIn K mainGlobals "min"=some none) (z12:nsIn K mainGlobals "max"=some none) (z13:nsIn K mainGlobals "set"=some none):Bn mg:=
 ⟨uF X G z0,uF X G z1,uF X G z2,uF X G z3,uF X G z4,uF X G z5,uF X G z6,uF X G z7,uF X G z8,uF X G z9,uF X G z10,uF X G z11,uF X G z12,uF X G z13⟩
def rS(t u:TS):TS:=fun D σ H=>∃R:St->Hp->Prop,t {D with nx:=R} σ H/\∀σ' H',R σ' H'->u D σ' H'
theorem b7{X:Cx}{st:Stmt}{rest:List Stmt}{t u:TS}(h1:PS X st t)(h2:PSs X rest u):PSs X (st::rest) (rS t u):=by
 intro pins s σ H D I h;obtain⟨R,h,hR⟩:=h;refine wpAny_execs_cons (thn (h1 pins s σ H {D with nx:=R} I h) fun f s1 q=>?_);cases f with
 |next=>obtain⟨σ',H',I',q⟩:=q;exact h2 pins s1 σ' H' D I' (hR σ' H' q)
 |ret v=>exact q
 |brk=>exact q
 |cont=>exact q
theorem az{n:Nat}(h:Nat.ble n 1000=true):n<=sizeLine:=vk (Nat.le_of_ble_eq_true h) (by decide)
end L2
namespace LM
noncomputable def bF(c:Nat):List Nat:=(List.range 64).filter c.testBit
theorem gB{c k:Nat}(hc:c<2^64):k∈bF c<->c.testBit k=true:=by
 unfold bF;rw[List.mem_filter,uU];constructor
 ·exact fun h=>h.2
 ·intro h;refine⟨?_,h⟩;rcases Nat.lt_or_ge k 64 with q|q
  ·exact q
  ·rw[Nat.testBit_lt_two_pow (ud hc (vK (by decide) q))]at h;cases h
theorem dq{c m n:Nat}(hm:c<2^m)(h:m<=n):(List.range m).filter c.testBit=(List.range n).filter c.testBit:=by
 obtain⟨d,rfl⟩:=Nat.exists_eq_add_of_le h
 induction d with
 |zero=>rfl
 |succ d ih=>rw[<-Nat.add_assoc,vB,List.filter_append,<-ih (by omega)];have e:c.testBit (m+d)=false:=Nat.testBit_lt_two_pow (ud hm (vK (by decide) (by omega)));simp[e]
noncomputable def bZ(a:Nat)(js:List Nat):Nat:=js.foldl (fun a j=>a||| 2^j) a
theorem m4{c n:Nat}(hc:c<2^n)(hn:n<=64):bF c=(List.range n).filter c.testBit:=(dq hc hn).symm
theorem length_le_of_subset{α:Type}[DecidableEq α]:∀{l1 l2:List α},l1.Nodup->(∀x∈l1,x∈l2)->l1.length<=l2.length
 | [],_,_,_=>uJ _
 |x::l1,l2,nd,h=>by
  obtain⟨nx,nd⟩:=List.nodup_cons.mp nd;have hx:x∈l2:=h x tY;have ih:=length_le_of_subset (l1:=l1) (l2:=l2.erase x) nd fun y hy=>by have hne:y≠x:=fun e=>nx (e▸hy);exact(List.mem_erase_of_ne hne).mpr (h y (t6 _ hy))
  rw[List.length_erase_of_mem hx]at ih;have:=List.length_pos_of_mem hx;rw[List.length_cons];omega
end LM
namespace My
open PySem L2 LM PyProof.Rows
theorem gL(a b:Nat):Builtin.bitAnd (a:Int) (b:Int)=((a&&& b:Nat):Int):=by rw[bitAnd_pp (by omega) (by omega)];simp only[uP]
theorem rq(c:Nat)(k:Int)(h:0<=k):decide (V.int (Builtin.bitAnd ((c:Int) / 2^k.toNat) 1)=V.int 1)=(decide (0<=k)&&c.testBit k.toNat):=by
 have e:(c:Int) / 2^k.toNat=((c / 2^k.toNat:Nat):Int):=by rw[Int.natCast_ediv,Int.natCast_pow];rfl
 have e2:Builtin.bitAnd ((c:Int) / 2^k.toNat) 1=((c / 2^k.toNat % 2:Nat):Int):=by rw[e];exact(gL _ 1).trans (by rw[Nat.and_one_is_mod])
 rw[e2,Nat.testBit_eq_decide_div_mod_eq,tS h,Bool.true_and,uT,uE,uE];constructor
 ·intro z;have:=V.int.inj z;omega
 ·intro z;rw[z];rfl
theorem bits_le{c:Nat}(hc:c<2^64):Builtin.Int.intBits (c:Int)<=64:=by
 unfold Builtin.Int.intBits;by_cases h:(c:Int)==0
 ·rw[tU h];omega
 ·rw[tV h];have h0:c≠0:=fun z=>h (by rw[z];rfl);have:c.log2<64:=(Nat.log2_lt h0).mpr hc;simp only[Int.natAbs_natCast];omega
theorem kT{c:Nat}(hc:c<2^64):(List.range (Builtin.Int.intBits (c:Int))).filter c.testBit=bF c:=by
 refine dq ?_ (bits_le hc);unfold Builtin.Int.intBits;by_cases h:(c:Int)==0
 ·rw[tU h];have:(c:Int)=0:=eq_of_beq h;have:c=0:=by omega
  subst this;decide
 ·rw[tV h];simp only[Int.natAbs_natCast];exact Nat.lt_log2_self
theorem mB(c i:Nat):(decide ((0:Int)<=0+(i:Int))&&c.testBit ((0:Int)+(i:Int)).toNat)=c.testBit i:=by rw[tS (by omega),Bool.true_and];congr 1;omega
theorem gm(j:Nat):(1:Int)*2^((j:Int)).toNat=((2^j:Nat):Int):=by rw[Int.one_mul,uP,Int.natCast_pow];rfl
theorem iy(a b:Nat):Builtin.bitOr (a:Int) (b:Int)=((a|||b:Nat):Int):=by have h:=nat_or_add_and a b;rw[bitOr_and,bitAnd_pp (by omega) (by omega)];simp only[uP];omega
theorem or_eq(a j:Nat):Builtin.bitOr (a:Int) (1*2^((j:Int)).toNat)=((a||| 2^j:Nat):Int):=by rw[gm,iy]
theorem nG(j:Int):(0:Int)<1*2^j.toNat:=by rw[Int.one_mul];exact Int.pow_pos (by decide)
theorem sv(c:Int): -(2^64)<c % (2^(64:Int).toNat)/\c % (2^(64:Int).toNat)<2^64:=by
 have e:((2:Int)^(64:Int).toNat)=18446744073709551616:=by decide
 rw[e];omega
theorem pL(v:Int)(n:Nat):∃z:Nat,v % (1*2^((n:Int)).toNat)=(z:Int)/\z<2^n:=by
 have h0:(0:Int)<((2^n:Nat):Int):=by have:=Nat.two_pow_pos n;omega
 refine⟨(v % ((2^n:Nat):Int)).toNat,?_,?_⟩
 ·rw[gm,Int.toNat_of_nonneg (u6 _ (by omega))]
 ·have h1:=uR v h0;have h2:=u6 v (show((2^n:Nat):Int)≠0 by omega);omega
noncomputable def isI:V->Bool
 | .int _=>true
 |_=>false
noncomputable def isB:V->Bool
 | .bl _=>true
 |_=>false
theorem pY(K:Frag){H:Hp}{x:V}{n:String}(ty:dF K H x (.type n)):kitOne K (.type n) (.type "int")=some (isI x||isB x):=by cases ty<;>kernel_rfl
theorem n9(K:Frag){H:Hp}{x:V}{n:String}(ty:dF K H x (.type n)):kitOne K (.type n) (.type "bool")=some (isB x):=by cases ty<;>kernel_rfl
theorem qA(z:Int):∃w:Nat,1+z % 8=(w:Int)/\0<w/\w<=8:=⟨(1+z % 8).toNat,by omega,by omega,by omega⟩
end My
namespace LM
open PyProof.Rows
theorem qk{a b:Nat}(h:∀j,a.testBit j=b.testBit j):a=b:=Nat.eq_of_testBit_eq h
theorem pA(k j:Nat):(2^k).testBit j=decide (k=j):=Nat.testBit_two_pow
theorem ic{j:Nat}:∀{js:List Nat}{a:Nat},(bZ a js).testBit j=true<->a.testBit j=true\/j∈js
 | [],a=>by simp[bZ]
 |x::js,a=>by
  have e:bZ a (x::js)=bZ (a||| 2^x) js:=rfl;rw[e,ic (js:=js)];simp only[Nat.testBit_or,Bool.or_eq_true,pA,uE,uy];constructor
  ·rintro((h|h)|h)
   ·exact .inl h
   ·exact .inr (.inl h.symm)
   ·exact .inr (.inr h)
  ·rintro(h|h|h)
   ·exact .inl (.inl h)
   ·exact .inl (.inr h.symm)
   ·exact .inr h
noncomputable def tG(c:Nat):Nat:=((List.range 64).find? c.testBit).getD 64
end LM
namespace L2
open PySem PySem.Spec PyProof.Rows
section
variable{X:Cx}{K:Frag}
theorem gE(h:X.K=K):IxR X (si K):=h▸cT
theorem i6(h:X.K=K):IxR X (sh K):=h▸au
theorem gW(h:X.K=K):dJ X (.type "list") (fun xs H Q=>∃p ys,xs=[.ref p]/\(SqL K H p ys\/SqT K H p ys)/\∀l,H l=none->Q (.ref l) (upd H l (.lst ys))):=h▸fj
theorem pE(h:X.K=K)(hu:X.A.units+64<cLine):OpR X (compareOp .NotEq) (sf K):=h▸iR hu
end
theorem sQ{n:Nat}{g:TG}{tt:TT}{te:TE}{σ0:St}{lo:Int}{Q:Hp->Prop}{D:Addr}{H:Hp}(Pv:Nat->List V->Hp->Prop)(h0:Pv 0 [] H)
  (hs:∀i acc H2,i<n->Pv i acc H2->g (.int (lo+i)) σ0 H2 fun σ2 H4=>tt σ2 H4 fun b H5=>if b=true then te σ2 H5 fun y H6=>H6 D=some (.lst acc)/\acc.length<sizeLine/\Pv (i+1) (acc++[y]) (upd H6 D (.lst (acc++[y])))else Pv (i+1) acc H5)
  (hd:∀acc H2,Pv n acc H2->Q H2):
  ∃W:Nat->Nat->List V->Hp->Prop,(∃m,W 0 m [] H)/\∀i m acc H2,W i m acc H2->
   ((Itr lo n).stop i H2/\Q H2)\/((Itr lo n).go i H2/\∃N:List V->Hp->Prop,(∀acc' H',N acc' H'->∃m',m'<m/\W (i+1) m' acc' H')/\∀x H3,(Itr lo n).yld i H2 x H3->g x σ0 H3 fun σ2 H4=>tt σ2 H4 fun b H5=>if b=true then te σ2 H5 fun y H6=>H6 D=some (.lst acc)/\acc.length<sizeLine/\N (acc++[y]) (upd H6 D (.lst (acc++[y])))else N acc H5):=
 gG (Q:=fun _ H=>Q H) Pv h0 hs hd
theorem qD{K:Frag}{a:Addr}{xs:List V}{g:TG}{tt:TT}{te:TE}{σ0:St}{Q:Hp->Prop}{D:Addr}{H:Hp}(Pv:Nat->List V->Hp->Prop)(h0:Pv 0 [] H)(hl:∀i acc H,i<=xs.length->Pv i acc H->SqL K H a xs)
  (hs:∀i x acc H2,xs[i]?=some x->Pv i acc H2->g x σ0 H2 fun σ2 H4=>tt σ2 H4 fun b H5=>if b=true then te σ2 H5 fun y H6=>H6 D=some (.lst acc)/\acc.length<sizeLine/\Pv (i+1) (acc++[y]) (upd H6 D (.lst (acc++[y])))else Pv (i+1) acc H5)
  (hd:∀acc H2,Pv xs.length acc H2->Q H2):
  ∃W:Nat->Nat->List V->Hp->Prop,(∃m,W 0 m [] H)/\∀i m acc H2,W i m acc H2->
   ((Itl K a).stop i H2/\Q H2)\/((Itl K a).go i H2/\∃N:List V->Hp->Prop,(∀acc' H',N acc' H'->∃m',m'<m/\W (i+1) m' acc' H')/\∀x H3,(Itl K a).yld i H2 x H3->g x σ0 H3 fun σ2 H4=>tt σ2 H4 fun b H5=>if b=true then te σ2 H5 fun y H6=>H6 D=some (.lst acc)/\acc.length<sizeLine/\N (acc++[y]) (upd H6 D (.lst (acc++[y])))else N acc H5):=
 mY (Q:=fun _ H=>Q H) Pv h0 hl hs hd
theorem oh{P:Program}{w:World}{k:Key}{u:Value}(r:RelV (kV k) u):(bb P w).is k u=true:=by
 cases k with
 |inl i=>obtain⟨t,e⟩:=(show ∃t,u=Value.int i t from r);subst e;exact jU P w i t
 |inr x=>obtain⟨t,e⟩:=(show ∃t,u=Value.str x t from r);subst e;exact jT P w x t
theorem iq{P:Program}{w:World}:∀{ks:List Key}{us:List Value},Vals (ks.map kV) us->ItemsAre (bb P w) ks us
 | [],_,r=>by rw[List.map_nil]at r;cases r;exact .nil
 |k::ks,_,r=>by
  rw[uO]at r;cases r with
  |cons h t=>exact .cons (oh h) (iq t)
section
variable{X:Cx}{pins:List (Addr×Obj)}{σ:St}{H:Hp}{s:Shared}{a:Addr}{y v:V}{u r:Value}{o:Option V}{A:Around}{E:Value->Shared->Prop}
theorem Inv.big(I:Inv X pins σ H s):sysModules<s.heap.objs.size:=by have h:mainGlobals<s.heap.objs.size:=(I.mod.glob.keeps I.bk).lt;exact Nat.lt_trans (by decide) h
theorem qe{h':Heap}{t':Nat}{ob:HO}(I:Inv X pins σ H s)(mu:Mut (H a))(hs:Heap.SameBut a s.heap h')(he:∃q,h'.get? a=some q)(new:bE X.prog X.w (upd H a ob) h' a ob):
  Inv X pins σ (upd H a ob) {s with heap:=h',toks:=t'}:=
 I.write (x:=a) (e:=a) mu (.inl rfl) (fun b q hb z=>(hs.2 b hb).trans z) he new
end
section
variable{X:Cx}{k:Nat}{f:Addr}{fd:FuncData}{ps:List Str}{sp:Sp}
theorem Inv.track{pins:List (Addr×Obj)}{σ:St}{H:Hp}{s:Shared}{h':Heap}{D:Addr}{ys:List V}{its:List Value}{n t':Nat}(I:Inv X pins σ H s)(fD:fE X pins H D)(k:∀b o,b≠D->s.heap.get? b=some o->h'.get? b=some o)
  (hv:Vals ys its) (hz:ys.length<=sizeLine) (g:h'.get? D=some {cls:=.type "list",data:=.seq its.toArray n}):Inv X pins σ (upd H D (.lst ys)) {s with heap:=h',toks:=t'}:=by
 obtain⟨f0,f1,f2,f3,f4,f5⟩:=fD;have nD:∀b u,H b=some u->b≠D:=fun b u e z=>by rw[z,f0]at e;cases e
 refine I.step (g':=s.gens) (d':=s.drawn) (ch:=[D]) (fun b hb=>?_) (fun b o _ _ hc e _=>k b o (fun z=>hc (by simp[z])) e) (fun b o _ _ hc e _=>⟨o.slots,k b o (fun z=>hc (by simp[z])) e⟩)
  (fun b o hc _ q=>by rw[ax (fun z=>hc (by simp[z]))];exact q) (fun b o hc e=>⟨o,k b o (fun z=>hc (by simp[z])) e⟩) (fun b xs e=>by rw[ax (nD b _ e)];exact e) (fun b o u e=>by rw[ax (nD b _ e)];exact e)
  (fun b ps e=>⟨#[],by rw[ax (nD b _ e),e];simp⟩) (fun m hm=>?_) (fun b u e=>?_) I.bare
 ·obtain rfl:b=D:=by simpa using hb
  exact⟨f3,f1,f4,f5⟩
 ·obtain⟨o,es,ep,ho,r⟩:=hm;exact⟨o,es,ep,k _ o (Ne.symm f1) ho,r⟩
 ·by_cases hbD:b=D
  ·subst hbD;rw[ae]at e;cases e;exact⟨hz,its,n,hv,g⟩
  ·rw[ax hbD]at e;refine(I.hok b u e).stay (fun c v hc q=>k c v ?_ q) (fun c q=>?_) fun c xs q=>?_
   ·rcases hc with z|z
    ·rw[z];exact hbD
    ·exact nD c _ z
   ·rw[ax (nD c _ q)];exact q
   ·rw[ax (nD c _ q)];exact q
end
end L2
namespace LM
open PyProof.Rows
theorem dh{G:List Nat}{j:Nat}:(bZ 0 G).testBit j=true<->j∈G:=by rw[ic];simp
end LM
namespace L2
open PySem PySem.Spec PyProof.Rows
section
variable{X:Cx}{K:Frag}
theorem pC{es:List Expr}{k:Nat}{t:TGs}{n:Nat}{pos:Pos}(hK:X.K=K)(hc:X.calm=true)(h:PGs X es t)
 (hn:(assignEach es X.env).length=n:=by rfl) (hst:(assignEach es X.env).findIdx? (·.1)=none:=by rfl):PG X (.Tuple es k pos) (p8 K n t):=hK▸kA hc h hn hst
theorem oR{n m i j:Nat}(hi:i<n)(hj:j<n)(hij:i≠j):∀x σ H R,σ.length=n+m->(∀(k:Nat),k<n->σ[k]?=some none)->p8 K 2 (j5 (eF i) (j5 (eF j) rA)) x σ H R->
  p8 K 2 (j5 (eF i) (j5 (eF j) rA)) x σ H fun σ2 H2=>Wk σ σ2/\R σ2 H2:=by
 intro x σ H R _ h0 h;obtain⟨a,xs,e,hq,hl,v,r,e1,v2,r2,e2,e3,h⟩:=h;refine⟨a,xs,e,hq,hl,v,r,e1,v2,r2,e2,e3,⟨by simp,fun k w e'=>?_⟩,h⟩;by_cases hk:k=i
 ·subst hk;rw[h0 _ hi]at e';cases e'
 ·by_cases hk2:k=j
  ·subst hk2;rw[h0 _ hj]at e';cases e'
  ·rw[List.getElem?_set_ne (Ne.symm hk2),List.getElem?_set_ne (Ne.symm hk)];exact e'
end
def TK(H H':Hp):Prop:=(∀a xs,H a=some (.tup xs)->H' a=some (.tup xs))/\∀a o xs,H a=some (.frz o (.tup xs))->H' a=some (.frz o (.tup xs))
theorem aq.tk{H H':Hp}(s:aq H H'):TK H H':=⟨fun _ _ e=>s _ _ e,fun _ _ _ e=>s _ _ e⟩
theorem TK.lst{H:Hp}{D:Addr}{xs:List V}{o:HO}(hD:H D=some (.lst xs)):TK H (upd H D o):=
 ⟨fun _ _ e=>by rw[ax (lK e hD (fun z=>nomatch z))];exact e,fun _ _ _ e=>by rw[ax (lK e hD (fun z=>nomatch z))];exact e⟩
theorem TK.sq{K:Frag}{H H':Hp}{a:Addr}{xs:List V}(t:TK H H')(h:SqT K H a xs):SqT K H' a xs:=by
 rcases h with(h|⟨o,h⟩)|h
 ·exact .inl (.inl (t.1 _ _ h))
 ·exact .inl (.inr ⟨o,t.2 _ _ _ h⟩)
 ·exact .inr h
theorem Paired.imp{α β:Type}{R R':α->β->Prop}(h:∀x y,R x y->R' x y){xs:List α}{ys:List β}(hI:Paired R xs ys):Paired R' xs ys:=by
 induction hI with
 |nil=>exact .nil
 |cons a b ih=>exact .cons (h _ _ a) (ih)
theorem a9{α β:Type}{R:α->β->Prop}:∀{xs:List α}{ys:List β}{i:Nat}{x:α},Paired R xs ys->xs[i]?=some x->∃y,ys[i]?=some y/\R x y
 |_,_,_,_,.nil,e=>by simp at e
 |_,_,0,_,.cons a _,e=>by simp at e;subst e;exact⟨_,rfl,a⟩
 |_,_,i+1,x,.cons _ b,e=>by obtain⟨y,h1,h2⟩:=a9 (i:=i) (x:=x) b (by simpa using e);exact⟨y,by simpa using h1,h2⟩
theorem Paired.app{α β:Type}{R:α->β->Prop}{xs xs':List α}{ys ys':List β}(hI:Paired R xs ys):Paired R xs' ys'->Paired R (xs++xs') (ys++ys'):=by
 induction hI with
 |nil=>exact fun h=>h
 |cons a b ih=>exact fun h=>.cons a (ih h)
end L2
namespace PySem
def fU(h h':Heap)(e:Addr):Prop:=(∀b ob,h.get? b=some ob->h'.get? b=some ob)/\∃oe,h'.get? e=some oe/\oe.cls=.type "AttributeError"
namespace F
theorem fZ:isSubtype (.type "AttributeError") (.type "AttributeError")=pure true:=by rw[isSubtype_type];kernel_rfl
end F
theorem gR{M:Model}{A:Around}{E:Value->Shared->Prop}{s:Shared}{α:Type}{v:Value}{name msg:Str}{Q:α->Shared->Prop}(hh:A.handled=none)(hm:msg.length<=sizeLine)
  (h:∀h' tk e,fU s.heap h' e->E (.ref e) {s with heap:=h',toks:=tk}):wpAny M A (raiseAttrError v name msg:Sem α) Q E s:=by
 unfold raiseAttrError;refine tN (wpAny_mkStr (tN ?_) hm);unfold newExc newTuple;refine tN (vO ?_ (by size_fits));refine tN (m:=firstArgMember _ _) (wpAny_of_eq (a:=Value.none) (by simp only[firstArgMember];kernel_rfl) ?_);rw[show ∀l,ownMembersOf (.type "AttributeError") l= #[unsetMember,unsetMember]from fun _=>rfl];refine vO ?_ (by size_fits);refine tN (wpAny_mkText ?_);unfold noteAttr;refine tN ?_;dsimp only;unfold lacksNameAndObj;dsimp only;refine tN (tN (wpAny_isInstance (T:="AttributeError") (b:=true) ⟨_,um _ rfl,rfl⟩ F.fZ ?_));simp only[Bool.not_true,uH,if_false];refine tN (wpAny_load (um _ rfl) ?_);show wpAny M A (pure true) _ _ _;refine tO ?_;rw[tU rfl];refine tN (vN ?_);refine tN (wpAny_typeOf (T:="AttributeError") ⟨_,um _ rfl,rfl⟩ ?_);dsimp only;refine wpAny_layMembers (um _ rfl) rfl ?_;unfold raiseNew;refine tN (wpAny_handled ?_);rw[hh];refine tN (tO (wpAny_throw ?_));refine h _ _ _ ⟨fun b ob hb=>?_,_,Heap.get?_update_self _ (um _ rfl) (Obj.isFreed_of_fields (Obj.data_mapFields rfl _)),Obj.cls_mapFields _ _⟩;rw[Heap.get?_update_other _ _ (Nat.ne_of_gt (ud (t9 hb) (by simp)))];exact tR _ (tR _ hb)
section
variable{prog:Program}{w:World}{K:Type}[DecidableEq K]{knd:KeyKind prog w K}{A:Around}{E:Value->Shared->Prop}{s:Shared}
namespace F
theorem br:plainId "dict.update.loop"=true:=by decide+kernel
theorem cV:entryFor table "dict.update.loop"=some Builtin.«dict.update.loop»:=entryFor_of_fast (by kernel_rfl)
end F
end
end PySem
namespace L2
open PySem PySem.Spec PyProof.Rows
noncomputable def cB:Key->PyData
 | .inl i=>.int i
 | .inr x=>.str x
noncomputable def c4(ks:List Key):PyData:=.tuple (ks.map cB)
noncomputable def kO(c:List (List Key)):PyData:=.tuple (c.map c4)
noncomputable def pV:Key->Bool
 | .inl _=>true
 | .inr x=>PyData.canLay0 (.str x)
theorem p5(a b:Key):PyData.eqv (cB a) (cB b)=decide (a=b):=by
 cases a with
 |inl i=>
  cases b with
  |inl j=>
   show(i==j)=_;by_cases h:i=j
   ·subst h;simp
   ·simp[h]
  |inr y=>rfl
 |inr x=>
  cases b with
  |inl j=>rfl
  |inr y=>
   show(x==y)=_;by_cases h:x=y
   ·subst h;simp
   ·simp[h]
theorem iL:∀(a b:List Key),PyData.eqvAll (a.map cB) (b.map cB)=decide (a=b)
 | [],[]=>rfl
 | [],_::_=>rfl
 |_::_,[]=>rfl
 |x::a,y::b=>by
  show(PyData.eqv (cB x) (cB y)&&PyData.eqvAll (a.map cB) (b.map cB))=_;rw[p5,iL a b];by_cases h1:x=y
  ·by_cases h2:a=b
   ·simp[h1,h2]
   ·simp[h1,h2]
  ·simp[h1]
theorem gI:∀(a b:List (List Key)),PyData.eqvAll (a.map c4) (b.map c4)=decide (a=b)
 | [],[]=>rfl
 | [],_::_=>rfl
 |_::_,[]=>rfl
 |x::a,y::b=>by
  show(PyData.eqvAll (x.map cB) (y.map cB)&&PyData.eqvAll (a.map c4) (b.map c4))=_;rw[iL,gI a b];by_cases h1:x=y
  ·by_cases h2:a=b
   ·simp[h1,h2]
   ·simp[h1,h2]
  ·simp[h1]
theorem l7(a b:List (List Key)):PyData.eqv (kO a) (kO b)=decide (a=b):=gI a b
theorem lO:∀(r:List Key),(∀k∈r,pV k=true)->PyData.canLayAll0 (r.map cB)=true
 | [],_=>rfl
 |k::r,h=>by
  have h1:PyData.canLay0 (cB k)=true:=by
   have:=h k (tY ..);cases k with
   |inl i=>rfl
   |inr x=>exact this
  show(PyData.canLay0 (cB k)&&PyData.canLayAll0 (r.map cB))=true;rw[h1,lO r fun x hx=>h x (t6 _ hx)];rfl
theorem iY:∀(c:List (List Key)),(∀r∈c,∀k∈r,pV k=true)->PyData.canLayAll0 (c.map c4)=true
 | [],_=>rfl
 |r::c,h=>by show(PyData.canLayAll0 (r.map cB)&&PyData.canLayAll0 (c.map c4))=true;rw[lO r (h r (tY ..)),iY c fun x hx=>h x (t6 _ hx)];rfl
theorem lQ:∀(r:List Key),PyData.depthAll (r.map cB)=0
 | []=>rfl
 |k::r=>by show max (cB k).depth (PyData.depthAll (r.map cB))=0;rw[lQ r];cases k<;>rfl
theorem j9:∀(c:List (List Key)),PyData.depthAll (c.map c4)<=1
 | []=>by show(0:Nat)<=1;decide
 |r::c=>by
  have h:=j9 c;have h2:(c4 r).depth<=1:=by show PyData.depthAll (r.map cB)+1<=1;rw[lQ];decide
  show max _ _<=1;exact Nat.max_le.mpr ⟨h2,h⟩
theorem qd(c:List (List Key)):(kO c).depth<=2:=by have:=j9 c;show PyData.depthAll (c.map c4)+1<=2;omega
section
variable{P:Program}{w:World}
inductive aX(P:Program)(w:World)(h:Heap):List (List Key)->List Value->Prop
 |nil:aX P w h [] []
 |cons {k:List Key} {a:Addr} {ks:List (List Key)} {vs:List Value}:IsTupleKey (bb P w) h k a->aX P w h ks vs->aX P w h (k::ks) (.ref a::vs)
def bB(P:Program)(w:World)(h:Heap)(c:List (List Key))(a:Addr):Prop:=
 (∀r∈c,∀k∈r,pV k=true)/\∃ob its n,h.get? a=some ob/\ob.cls=.type "tuple"/\ob.data=.seq its n/\aX P w h c its.toList
theorem aX.one{h:Heap}{x y:List (List Key)}{us:List Value}(p:aX P w h x us)(q:aX P w h y us):x=y:=by
 induction p generalizing y with
 |nil=>cases q;rfl
 |cons p1 _ ih=>
  cases q with
  |cons q1 q2=>rw[p1.inj q1,ih q2]
theorem bB.one{h:Heap}{x y:List (List Key)}{a:Addr}(p:bB P w h x a)(q:bB P w h y a):x=y:=by obtain⟨_,ob,its,n,p1,_,p3,p4⟩:=p;obtain⟨_,ob',its',n',q1,_,q3,q4⟩:=q;rw[p1]at q1;cases q1;rw[p3]at q3;injection q3 with e _;subst e;exact p4.one q4
theorem aX.stay{h h':Heap}{c:List (List Key)}{us:List Value}{d:Addr}{o:Obj}{es:Array DictEntry}{ep:Nat}(p:aX P w h c us)(ho:h.get? d=some o)(hd:o.data=.dict es ep)(hs:Heap.SameBut d h h'):aX P w h' c us:=by
 induction p with
 |nil=>exact .nil
 |cons p1 _ ih=>exact .cons (p1.keeps ho hd hs) ih
theorem bB.stay{h h':Heap}{c:List (List Key)}{a d:Addr}{o:Obj}{es:Array DictEntry}{ep:Nat}(p:bB P w h c a)(ho:h.get? d=some o)(hd:o.data=.dict es ep)(hs:Heap.SameBut d h h'):bB P w h' c a:=by
 obtain⟨l,ob,its,n,p1,p2,p3,p4⟩:=p;have ne:a≠d:=fun z=>by rw[z,ho]at p1;cases p1;rw[hd]at p3;cases p3
 exact⟨l,ob,its,n,(hs.2 a ne).trans p1,p2,p3,p4.stay ho hd hs⟩
theorem bB.tyIs{s:Shared}{c:List (List Key)}{a:Addr}(p:bB P w s.heap c a):s.TypeIs (.ref a) "tuple":=by obtain⟨_,ob,_,_,p1,p2,_⟩:=p;exact⟨ob,p1,p2⟩
theorem gQ{h:Heap}{ks:List Key}{us:List Value}(hI:ItemsAre (bb P w) ks us):∃as,ReadsAll h us (ks.map cB) as:=by
 induction hI with
 |nil=>exact⟨_,.nil⟩
 |cons p1 p2 ih=>
  obtain⟨as,r⟩:=ih;rcases aU p1 with⟨i,t,rfl,rfl⟩|⟨x,t,rfl,rfl⟩
  ·exact⟨_,.cons (.int i t) r⟩
  ·exact⟨_,.cons (.str x t) r⟩
theorem kz{h:Heap}{c:List (List Key)}{us:List Value}(hI:aX P w h c us):∃as,ReadsAll h us (c.map c4) as:=by
 induction hI with
 |nil=>exact⟨_,.nil⟩
 |cons p1 p2 ih=>obtain⟨as,r⟩:=ih;obtain⟨ob,its,n,q1,q2,q3,q4⟩:=p1;obtain⟨bs,r2⟩:=gQ (h:=h) q4;exact⟨_,.cons (.tuple q1 q2 q3 r2) r⟩
theorem bB.reads{h:Heap}{c:List (List Key)}{a:Addr}(p:bB P w h c a):∃as,Reads h (.ref a) (kO c) as:=by obtain⟨_,ob,its,n,p1,p2,p3,p4⟩:=p;obtain⟨as,r⟩:=kz p4;exact⟨_,.tuple p1 p2 p3 r⟩
noncomputable def jg(P:Program)(w:World)(c:List (List Key)):Int:=reduceHash (Builtin.Tuple.tupleHashOf (c.map (tupleKeyHash (bb P w))))
noncomputable def du(c:List (List Key)):Nat:=(c.map fun r=>r.length+1).sum
variable{A:Around}{E:Value->Shared->Prop}{s:Shared}
theorem oC{c:List (List Key)}{a:Addr}{Q:Int->Shared->Prop}(room:A.units+3<cLine)(p:bB P w s.heap c a)(q:Q (jg P w c) {s with toks:=s.toks+(du c+1)}):
  wpAny (model P w) A (pyHash (.ref a)) Q E s:=by
 have ty:=p.tyIs;obtain⟨_,ob,its,n,p1,_,p3,p4⟩:=p;unfold pyHash
 first|unfold pyHashByItsType|skip
 first|refine tN (wpAny_cRoomFor_or (.inr (by omega)) ?_)|skip
 refine tN (wpAny_specialOf ty F.slot_tuple_hash.lookup ?_);show wpAny _ _ (if(some (Value.builtin "tuple.__hash__")==some Value.none)=true then _ else _) Q E s;rw[tV (by rw[beq_builtin_none];exact tZ)];refine tN (wpAny_specialOf ty F.slot_tuple_hash.lookup ?_);show wpAny _ _ (callSpecialIfBoundUnlessNone? (.ref a) "__hash__" _>>= _) Q E s;refine tN (wpAny_callSpecialIfBoundUnlessNone?_slot ty F.slot_tuple_hash (wpAny_call_entry F.slot_tuple_hash ty F.entry_tuple_hash ?_ (F.args_tuple_hash_1 _)));show wpAny _ _ (Builtin.Tuple.tupleItemsOf (.ref a)>>= _) _ _ s;refine tN (wpAny_tupleItemsOf p1 p3 (tN ?_));rw[<-Array.forIn_toList];refine wpAny_forIn_list _ (fun left (acc:Array Int) s'=>∃c1 c2,c=c1++c2/\aX P w s.heap c2 left/\acc.toList=c1.map (tupleKeyHash (bb P w))/\s'={s with toks:=s.toks+du c1}) _ ?_ ?_ _ _ ⟨[],c,rfl,p4,rfl,rfl⟩
 ·rintro u left acc s' ⟨c1,c2,rfl,r,e,rfl⟩;cases r with
  | @cons k b ks vs r1 r2=>
   refine tN (wpAny_pyHash_tuple (ks:=k) (by simp only[Around.in1_units];omega) r1 ?_);have fin:∃d1 d2,c1++k::ks=d1++d2/\aX P w s.heap d2 left/\(acc.push (tupleKeyHash (bb P w) k)).toList=d1.map (tupleKeyHash (bb P w))/\({s with toks:=s.toks+du c1+(k.length+1)}:Shared)={s with toks:=s.toks+du d1}:=
    ⟨c1++[k],ks,by simp,r2,by simp[e],by simp[du,Nat.add_assoc]⟩
   first
    |exact tO fin
    |exact tN (tO (tO fin))
 ·rintro acc s' ⟨c1,c2,rfl,r,e,rfl⟩;cases r;rw[uN]at q;show wpAny _ _ (retInt (Builtin.Tuple.tupleHashOf acc.toList)) _ _ _;rw[e];refine wpAny_ret_mkInt ?_;unfold jg reduceHash at q;generalize Builtin.Tuple.tupleHashOf (c1.map (tupleKeyHash (bb P w)))=z at q ⊢;show wpAny _ _ (if(decide (-(2:Int)^63<=z)&&decide (z<2^63))=true then _ else _) Q E _;by_cases hz:(decide (-(2:Int)^63<=z)&&decide (z<2^63))=true
  ·rw[tU hz]at q ⊢;exact tO (by simpa[Nat.add_assoc]using q)
  ·rw[tV hz]at q ⊢;exact tN (vN (tO (by simpa[Nat.add_assoc]using q)))
theorem rH{x y:List (List Key)}{a b:Addr}{Q:Bool->Shared->Prop}(room:A.units+3<cLine)(p:bB P w s.heap x a)(q:bB P w s.heap y b)(h:Q (decide (x=y)) s):wpAny (model P w) A (eqBool (.ref a) (.ref b)) Q E s:=by obtain⟨as,ra⟩:=p.reads;obtain⟨bs,rb⟩:=q.reads;have dx:=qd x;have dm:=Nat.min_le_left (kO x).depth (kO y).depth;rw[<-l7]at h;exact SeqAt.eqAt_reads _ _ A s _ _ _ _ ra rb (iY x p.1) (iY y q.1) (by omega) P w E Q h
end
section
variable{P:Program}{w:World}{A:Around}{E:Value->Shared->Prop}{s:Shared}
theorem mv{k:List Key}{a:Addr}(m:Nat){Q:Bool->Shared->Prop}(p:IsTupleKey (bb P w) s.heap k a)(q:Q true s):wpAny (model P w) A (eqIsQuiet (m+1) (.ref a)) Q E s:=by
 have ty:=p.typeIs;obtain⟨ob,its,n,p1,_,p3,p4⟩:=p;unfold eqIsQuiet;refine tN (wpAny_specialOf ty F.slot_tuple_eq.lookup ?_);show wpAny _ _ (isInstance (.ref a) (.type "tuple")>>= _) _ _ s;refine tN (wpAny_isInstance ty isSubtype_tuple_tuple ?_);simp only[Bool.not_true,uH,if_false];refine tN (wpAny_seqItems p1 p3 (tN ?_));show wpAny _ _ (forIn its _ _) _ _ s;rw[<-Array.forIn_toList];refine wpAny_forIn_list _ (fun left r s'=>r.1=none/\s'=s/\∀v∈left,carriedByValue v=true) _ ?_ ?_ _ _ ⟨rfl,rfl,p4.byValue⟩
 ·rintro u left r s' ⟨hr,rfl,all⟩;rw[eqIsQuiet_byValue m (all u tY)];refine tN (tO ?_);simp only[Bool.not_true,uH,if_false];exact tO ⟨rfl,rfl,fun z hz=>all z (t6 _ hz)⟩
 ·rintro⟨r1,r2⟩ s' ⟨hr,rfl,_⟩;simp only at hr;subst hr;exact tO q
theorem mZ{c:List (List Key)}{a:Addr}{Q:Bool->Shared->Prop}(p:bB P w s.heap c a)(q:Q true s):wpAny (model P w) A (eqIsQuiet 8 (.ref a)) Q E s:=by
 have ty:=p.tyIs;obtain⟨_,ob,its,n,p1,_,p3,p4⟩:=p;unfold eqIsQuiet;refine tN (wpAny_specialOf ty F.slot_tuple_eq.lookup ?_);show wpAny _ _ (isInstance (.ref a) (.type "tuple")>>= _) _ _ s;refine tN (wpAny_isInstance ty isSubtype_tuple_tuple ?_);simp only[Bool.not_true,uH,if_false];refine tN (wpAny_seqItems p1 p3 (tN ?_));show wpAny _ _ (forIn its _ _) _ _ s;rw[<-Array.forIn_toList];refine wpAny_forIn_list _ (fun left r s'=>r.1=none/\s'=s/\∃c2,aX P w s.heap c2 left) _ ?_ ?_ _ _ ⟨rfl,rfl,c,p4⟩
 ·rintro u left r s' ⟨hr,rfl,c2,r2⟩;cases r2 with
  |cons r3 r4=>refine tN (mv 6 r3 ?_);simp only[Bool.not_true,uH,if_false];exact tO ⟨rfl,rfl,_,r4⟩
 ·rintro⟨r1,r2⟩ s' ⟨hr,rfl,_⟩;simp only at hr;subst hr;exact tO q
end
noncomputable def bJ(P:Program)(w:World):HeapKind P w (List (List Key)) where
 is:=bB P w
 hash:=jg P w
 draws:=fun c=>du c+1
 room:=fun A=>A.units+3<cLine
 inj:=fun p q=>p.one q
 keeps:=fun p ho hd hs=>p.stay ho hd hs
 pyHash:=fun hu p q=>oC hu p q
 eqBool:=fun hu p q h=>rH hu p q h
 quiet:=fun p q=>mZ p q
noncomputable abbrev Col:=List (List Key)
noncomputable abbrev CT:=List (Col×Addr×V)
noncomputable def bY(a:Addr)(o:Obj):HO:=.ext fun h=>h.get? a=some o
theorem iW{P:Program}{w:World}{H:Hp}{h:Heap}{a:Addr}{o:Obj}(e:h.get? a=some o):bE P w H h a (bY a o):=⟨e,⟨o,e⟩,fun _ _ e1 k=>k o e1⟩
noncomputable def cM:Obj:={cls:=.type "dict",data:=.dict #[]}
def CTv:CT->List (Col×Addr×Value)->Prop:=Paired fun(t:Col×Addr×V) (v:Col×Addr×Value)=>t.1=v.1/\t.2.1=v.2.1/\RelV t.2.2 v.2.2
structure jo(P:Program)(w:World)(o:Obj)(T:CT):Prop where
 ex:o.ExactDict
 len:T.length<=sizeLine
 es:∃es ep vs,o.data=.dict es ep/\es.toList=vs.map (entryOfKey (bJ P w))/\CTv T vs/\(vs.map (·.1)).Nodup
theorem gJ(P:Program)(w:World):jo P w cM []:=⟨⟨rfl,rfl,rfl⟩,uJ _,#[],0,[],rfl,rfl,.nil,List.nodup_nil⟩
def dO(K:Frag)(H:Hp)(b:Addr)(c:Col):Prop:=(∀r∈c,∀k∈r,pV k=true)/\∃xs,SqT K H b xs/\Paired (fun(v:V) (r:List Key)=>∃a,v=.ref a/\SqT K H a (r.map kV)) xs c
theorem dO.tk{K:Frag}{H H':Hp}{b:Addr}{c:Col}(t:TK H H')(h:dO K H b c):dO K H' b c:=by obtain⟨l,xs,h1,h2⟩:=h;exact⟨l,xs,t.sq h1,Paired.imp (fun _ _ ⟨a,e,z⟩=>⟨a,e,t.sq z⟩) h2⟩
theorem TK.obj{H:Hp}{D:Addr}{ob:Obj}{o:HO}(hD:H D=some (bY D ob)):TK H (upd H D o):=
 ⟨fun _ _ e=>by rw[ax (lK e hD (fun z=>nomatch z))];exact e,fun _ _ _ e=>by rw[ax (lK e hD (fun z=>nomatch z))];exact e⟩
noncomputable def atT(T:CT)(c:Col):Option V:=(T.find? fun t=>decide (t.1=c)).map (·.2.2)
noncomputable def cQ(T:CT)(c:Col)(b:Addr)(v:V):CT:=if(T.any fun t=>decide (t.1=c))=true then T.map (fun t=>if t.1=c then(t.1,t.2.1,v)else t)else T++[(c,b,v)]
section
variable{X:Cx}{pins:List (Addr×Obj)}{σ:St}{H:Hp}{s:Shared}
theorem dO.is{b:Addr}{c:Col}(I:Inv X pins σ H s)(h:dO X.K H b c):bB X.prog X.w s.heap c b:=by
 obtain⟨l,xs,h1,h2⟩:=h;obtain⟨its,rv,⟨ob,e1,e2,n,e3⟩,_⟩:=I.tuple h1;refine⟨l,ob,its.toArray,n,e1,e2,e3,?_⟩;have key:∀{xs:List V}{its:List Value}{c:Col},Vals xs its->Paired (fun(v:V) (r:List Key)=>∃a,v=.ref a/\SqT X.K H a (r.map kV)) xs c->aX X.prog X.w s.heap c its:=by
  intro xs its c rv pr
  induction pr generalizing its with
  |nil=>cases rv;exact .nil
  |cons p1 _ ih=>
   obtain⟨a,rfl,ha⟩:=p1;cases rv with
   |cons r1 r2=>cases r1;obtain⟨its2,rv2,⟨ob2,f1,f2,n2,f3⟩,_⟩:=I.tuple ha;exact .cons ⟨ob2,its2.toArray,n2,f1,f2,f3,by simpa using iq rv2⟩ (ih r2)
 simpa using key rv h2
theorem qg{T:CT}{vs:List (Col×Addr×Value)}(hI:CTv T vs):∀v∈vs,∃t∈T,t.1=v.1/\t.2.1=v.2.1:=by
 induction hI with
 |nil=>exact fun v hv=>by cases hv
 |cons a b ih=>
  intro v hv;rcases uy.mp hv with e|e
  ·subst e;exact⟨_,tY ..,a.1,a.2.1⟩
  ·obtain⟨t,ht,h⟩:=ih v e;exact⟨t,t6 _ ht,h⟩
theorem jo.dict{d:Addr}{o:Obj}{T:CT}(I:Inv X pins σ H s)(hd:H d=some (bY d o))(ho:jo X.prog X.w o T)(hk:∀t∈T,dO X.K H t.2.1 t.1):∃vs,CTv T vs/\s.heap.DictOfH (bJ X.prog X.w) d vs:=by obtain⟨es,ep,vs,h1,h2,h3,h4⟩:=ho.es;have e:s.heap.get? d=some o:=(I.hok d _ hd).1;refine⟨vs,h3,o,es,ep,e,ho.ex,h1,h2,fun v hv=>?_,h4⟩;obtain⟨t,ht,e1,e2⟩:=qg h3 v hv;rw[<-e1,<-e2];exact(hk t ht).is I
theorem gF{T:CT}{vs:List (Col×Addr×Value)}(h:CTv T vs):T.length=vs.length:=uj h
theorem qC{c:Col}{T:CT}{vs:List (Col×Addr×Value)}(hI:CTv T vs):(atT T c=none/\atKey vs c=none)\/∃v p,atT T c=some v/\atKey vs c=some p/\RelV v p.2:=by
 induction hI with
 |nil=>exact .inl ⟨rfl,rfl⟩
 | @cons t u _ _ a b ih=>
  by_cases h:t.1=c
  ·have h':u.1=c:=a.1.symm.trans h;refine .inr ⟨t.2.2,u.2,?_,?_,a.2.2⟩
   ·simp[atT,List.find?_cons,h]
   ·simp[atKey,List.find?_cons,h']
  ·have h':¬u.1=c:=fun z=>h (a.1.trans z);have ih:=ih;simpa[atT,atKey,List.find?_cons,h,h']using ih
theorem rG{c:Col}{T:CT}{vs:List (Col×Addr×Value)}(hI:CTv T vs):(T.any fun t=>decide (t.1=c))=(atKey vs c).isSome:=by
 induction hI with
 |nil=>exact rfl
 | @cons t u _ _ a b ih=>
  have ih:=ih;rw[List.any_cons,ih];by_cases h:t.1=c
  ·have h':u.1=c:=a.1.symm.trans h;simp[atKey,List.find?_cons,h,h']
  ·have h':¬u.1=c:=fun z=>h (a.1.trans z);simp[atKey,List.find?_cons,h,h']
theorem rF{c:Col}{v:V}{u:Value}(r:RelV v u){T:CT}{vs:List (Col×Addr×Value)}(hI:CTv T vs):CTv (T.map fun t=>if t.1=c then(t.1,t.2.1,v)else t) (vs.map (putAt c u)):=by
 induction hI with
 |nil=>exact .nil
 | @cons t q _ _ a b ih=>
  rw[uO,uO];refine .cons ?_ (ih);unfold putAt;by_cases h:t.1=c
  ·rw[tU h,tU (a.1.symm.trans h)];exact⟨a.1,a.2.1,r⟩
  ·rw[tV h,tV (fun z=>h (a.1.trans z))];exact a
theorem oB{c:Col}{b:Addr}{v:V}{u:Value}(r:RelV v u){T:CT}{vs:List (Col×Addr×Value)}(h:CTv T vs):CTv (cQ T c b v) (storedH vs c b u):=by
 unfold cQ storedH;rw[rG h];split
 ·exact rF r h
 ·exact Paired.app h (.cons ⟨rfl,rfl,r⟩ .nil)
theorem jG(T:CT)(c:Col)(b:Addr)(v:V):(cQ T c b v).length<=T.length+1:=by
 unfold cQ;split
 ·rw[tX];omega
 ·rw[uA];simp
end
def qH:TE:=fun _ H Q=>∀p,H p=none->(p==sysModules)=false->Q (.ref p) (upd H p (bY p cM))
def b6(P:Program)(w:World)(K:Frag)(H:Hp)(d:Addr)(o:Obj)(T:CT):Prop:=H d=some (bY d o)/\jo P w o T/\(d==sysModules)=false/\∀t∈T,dO K H t.2.1 t.1
def r9(P:Program)(w:World)(K:Frag)(td ty tv:TE):TS:=fun D σ H=>tv σ H fun v H1=>td σ H1 fun x H2=>ty σ H2 fun y H3=>∃d o T b c,x=.ref d/\b6 P w K H3 d o T/\y=.ref b/\dO K H3 b c/\T.length<1000/\∀o',jo P w o' (cQ T c b v)->D.nx σ (upd H3 d (bY d o'))
section
variable{X:Cx}{o i e f value:Expr}{td ty tv tx:TE}{pos pos' apos cpos:Pos}
theorem jL:PE X (.Dict [] [] pos) qH:=fun pins s σ H Q I h=>wpAny_Dict_empty ⟨.ref s.heap.objs.size,_,I.laid (a:=s.heap.objs.size) (o:=bY s.heap.objs.size cM) (t':=s.toks) (fun _ _ q=>tR _ q) (uc _) (iW (um _ rfl)),rfl,h _ (I.hok.fresh (uc _)) (beq_eq_false_iff_ne.mpr (Ne.symm (uz I.big)))⟩
theorem lH(hu:X.A.units+64<cLine)(ho:PE X o td)(hi:PE X i ty)(hv:PE X value tv)(hs:swapsWith value (some (.Subscript o i pos')) pos.line X.env=pure false):
  PS X (.Assign [.Subscript o i pos'] value pos) (r9 X.prog X.w X.K td ty tv):=by
 intro pins s σ H D I h;refine wpAny_Assign_Subscript (thn (hv pins s σ H _ I h) fun r s1 hPz=>L2.ep3 hPz fun v H1 I1 rv q1=>thn (ho pins s1 σ H1 _ I1 q1) fun u s2 hPz=>L2.ep3 hPz fun x H2 I2 rx q2=>thn (hi pins s2 σ H2 _ I2 q2) fun iv s3 hPz=>?_) hs;obtain⟨y,H3,I3,ry,d,ob,T,b,c,ex,hc,ey,hb,hl,q3⟩:=hPz;subst ex ey;cases rx;cases ry;obtain⟨h1,h2,h3,h4⟩:=hc;obtain⟨vs,rT,DD⟩:=h2.dict I3 h1 h4;have lt:=gF rT;have sl:(1000:Nat)<=sizeLine:=by decide
 refine wpAny_setItem_heap (hsz:=by omega) (show X.A.in1.units+3<cLine by simp only[Around.in1_units];omega) (hb.is I3) DD fun h' DD' hs'=>?_;obtain⟨ob',es',ep',e1,e2,e3,e4,_,e6⟩:=DD';have ho':jo X.prog X.w ob' (cQ T c b v):=⟨e2,by have:=jG T c b v;omega,es',ep',_,e3,e4,oB rv rT,e6⟩;exact⟨σ,_,qe I3 (by rw[h1];exact True.intro) hs' ⟨ob',e1⟩ (iW e1),q3 ob' ho'⟩
end
section
variable{P:Program}{w:World}{A:Around}{E:Value->Shared->Prop}{s:Shared}{it d:Addr}{i ep:Nat}{od:Obj}{es:Array DictEntry}
theorem kL{Q:Value->Shared->Prop}(nm:(d==sysModules)=false)(g:s.heap.get? d=some od)(x:od.ExactDict)(gd:od.data=.dict es ep)
  (q:Q (.ref s.heap.objs.size) {s with heap:=s.heap.push {cls:=.type "dict_keyiterator",data:=.fields #[.ref d,.int 0 0,.int es.size 0,.int ep 0]}}):wpAny (model P w) A (pyIter (.ref d)) Q E s:=by
 have ty:s.TypeIs (.ref d) "dict":=⟨od,g,x.1⟩;refine wpAny_pyIter_slot ty F.slot_dict_iter (wpAny_call_entry F.slot_dict_iter ty F.entry_dict_iter ?_ (F.args_dict_iter_1 _));unfold Builtin.«dict.__iter__» Builtin.Dict.dictSlotNone;refine tN (tN (wpAny_notOrdered_dict ty ?_));refine tO ?_;refine tN (show wpAny (model P w) A.in1 (pure d) _ _ _ from tO ?_);unfold Builtin.Dict.showsAll;rw[tV (by rw[nm];exact tZ)];refine tN (tO (tN (wpAny_dictEntries g gd (tN (wpAny_dictEpoch g gd ?_)))));refine tN (vO (tO ⟨_,rfl,"dict_keyiterator",_,⟨_,um _ rfl,rfl⟩,vv.lookup,?_⟩));simpa[rawInt]using q
theorem mS{Q:Option Value->Shared->Prop}{en:DictEntry}(hit:s.heap.IsKeyIter it d i es.size ep)(g:s.heap.get? d=some od)(gd:od.data=.dict es ep)(hx:es[i]?=some en)
  (q:∀h',h'.IsKeyIter it d (i+1) es.size ep->Heap.SameBut it s.heap h'->Q (some en.key) {s with heap:=h'}):wpAny (model P w) A (pyNext (.ref it)) Q E s:=by
 obtain⟨oi,gi,ci,di⟩:=id hit;unfold pyNext;refine tN (wpAny_attempt (wpAny_callSpecial?_slot (name:=Str.ofString "__next__") hit.typeIs vv (wpAny_call_entry vv hit.typeIs F.entry_dict_keyiterator_next ?_ (F.args_dict_keyiterator_next_1 _))));refine tN (tO (tN (tN ?_)))
 first|refine tN (wpAny_typeNameOfWhole_keyiter hit.typeIs (tO ?_))|refine tN (wpAny_typeNameOf_keyiter hit.typeIs (tO ?_))
 refine tN (wpAny_fieldsOf gi di ?_);have nown:Builtin.Dict_items.ownsTuple "dict_keyiterator"=false:=by decide
 simp only[nown,uH,if_false];show wpAny _ _ (if(Value.ref d==Value.none)=true then _ else _) _ _ s;rw[tV (show ¬((Value.ref d==Value.none)=true)from tZ)];refine tN (tO (tN (wpAny_dictEntries g gd ?_)));rw[tV (by simp)];refine tN (tO (tN (wpAny_dictEpoch g gd ?_)));rw[tV (by simp)];refine tO ?_;simp only[show ¬((i:Int)<0)from by omega,if_false,uP,hx];refine tN ?_
 first|refine tN (wpAny_typeNameOfWhole_keyiter hit.typeIs (tO ?_))|refine tN (wpAny_typeNameOf_keyiter hit.typeIs (tO ?_))
 refine tN (wpAny_isOneOf_keyiter hit.typeIs ?_);show wpAny _ _ (setField (.ref it) 1 (rawInt ((i:Int)+1))>>= _) _ _ s;refine tN (wpAny_setField gi di (by simp) ?_);have nx:(s.heap.update it (Obj.mapFields (·.setIfInBounds 1 (rawInt ((i:Int)+1))))).IsKeyIter it d (i+1) es.size ep:=
  ⟨_,Heap.get?_update_self _ gi (Obj.isFreed_of_fields (Obj.data_mapFields di _)),(Obj.cls_mapFields ..).trans ci,by rw[Obj.data_mapFields di];simp[rawInt]⟩
 refine tN (wpAny_holding (tN (wpAny_isOneOf_keyiter (s:={s with heap:=s.heap.update it (Obj.mapFields (·.setIfInBounds 1 (rawInt ((i:Int)+1))))}) nx.typeIs ?_)));show wpAny _ _ (pure en.key) _ _ _;exact tO (tO ⟨_,rfl,tO (q _ nx (Heap.SameBut.update ..))⟩)
theorem og{Q:Option Value->Shared->Prop}(hh:A.handled=none)(hit:s.heap.IsKeyIter it d i es.size ep)(g:s.heap.get? d=some od)(gd:od.data=.dict es ep)(hx:es.size<=i)
  (q:∀h',Heap.ExtBut it s.heap h'->Q none {s with heap:=h'}):wpAny (model P w) A (pyNext (.ref it)) Q E s:=by
 obtain⟨oi,gi,ci,di⟩:=id hit;unfold pyNext;refine tN (wpAny_attempt (wpAny_callSpecial?_slot (name:=Str.ofString "__next__") hit.typeIs vv (wpAny_call_entry vv hit.typeIs F.entry_dict_keyiterator_next ?_ (F.args_dict_keyiterator_next_1 _))));refine tN (tO (tN (tN ?_)))
 first|refine tN (wpAny_typeNameOfWhole_keyiter hit.typeIs (tO ?_))|refine tN (wpAny_typeNameOf_keyiter hit.typeIs (tO ?_))
 refine tN (wpAny_fieldsOf gi di ?_);have nown:Builtin.Dict_items.ownsTuple "dict_keyiterator"=false:=by decide
 simp only[nown,uH,if_false];show wpAny _ _ (if(Value.ref d==Value.none)=true then _ else _) _ _ s;rw[tV (show ¬((Value.ref d==Value.none)=true)from tZ)];refine tN (tO (tN (wpAny_dictEntries g gd ?_)));rw[tV (by simp)];refine tN (tO (tN (wpAny_dictEpoch g gd ?_)));rw[tV (by simp)];refine tO ?_;simp only[show ¬((i:Int)<0)from by omega,if_false,uP,Array.getElem?_eq_none hx];refine tN ?_
 first|refine tN (wpAny_typeNameOfWhole_keyiter hit.typeIs (tO ?_))|refine tN (wpAny_typeNameOf_keyiter hit.typeIs (tO ?_))
 show wpAny _ _ (setField (.ref it) 0 .none>>= _) _ _ s;refine tN (wpAny_setField gi di (by simp) ?_);show wpAny _ _ (newExc (.type "StopIteration") []>>= _) _ _ _;simp only[newExc,newTuple];refine tN (tN (vO ?_ (by size_fits)));refine tN (m:=firstArgMember _ _) (wpAny_of_eq (a:=Value.none) (by first|rfl|(simp only[firstArgMember];rfl)) (vO ?_ (by size_fits)));simp only[raiseNew];refine tN (wpAny_handled ?_);rw[show A.in1.handled=none from hh];refine tN (tO (wpAny_throw ?_));refine tN (wpAny_isInstance (b:=true) (T:="StopIteration") ⟨_,um _ rfl,rfl⟩ isSubtype_stop ?_);exact tO (q _ (((Heap.SameBut.update ..).extBut.push _).push _))
end
noncomputable def Itc(d:Addr)(o:Obj)(T:CT):It:=
 ⟨fun i H=>H d=some (bY d o)/\i<T.length,fun i H x H'=>H'=H/\∃t,T[i]?=some t/\x=.ref t.2.1,fun i H=>H d=some (bY d o)/\T.length<=i⟩
theorem ni{P:Program}{w:World}{K:Frag}{tg:Expr}(d it:Addr)(o:Obj)(T:CT){es:Array DictEntry}{ep:Nat}(hd:o.data=.dict es ep)(hT:∃vs,es.toList=vs.map (entryOfKey (bJ P w))/\CTv T vs):
  Turn P w K tg (Itc d o T) [it] it (fun i h=>h.IsKeyIter it d i es.size ep) where
 mem:=by simp
 obj:=fun i h st b hb=>by
  have e:b=it:=by simpa using hb
  subst e;obtain⟨o,e,c,d⟩:=st;exact⟨o,e,fun v z=>by rw[d]at z;cases z⟩
 keep:=fun i h h' st k=>st.at fun o e=>k it (by simp) o e
 item:=by
  intro X hP hw hK hc i pins s σ H E I hf st hg;obtain⟨ha,hi⟩:=hg;obtain⟨vs,e1,e2⟩:=hT;have lt:=gF e2;have g:s.heap.get? d=some o:=(I.hok d _ ha).1;obtain⟨t,ht⟩:∃t,T[i]?=some t:=⟨T[i],by simp[hi]⟩;obtain⟨v,hv,r1,r2,r3⟩:=a9 e2 ht;have he:es[i]?=some (entryOfKey (bJ P w) v):=by rw[<-ug,e1,uV,hv];rfl
  obtain⟨f0,f1,f2,f3,f4,f5⟩:=hf it (by simp);refine mS st g hd he fun h' st' sb=>?_;have I1:Inv X pins σ H {s with heap:=h'}:=I.turned (t':=s.toks) (fun b o hb e=>(sb.2 b hb).trans e) f0 f1 f3 f4 f5;obtain⟨oi,e,c,d'⟩:=id st';exact⟨_,rfl,oq (s:={s with heap:=h'}) e c d' (by decide) ⟨.ref t.2.1,H,I1,by rw[r2];rfl,⟨rfl,t,ht,rfl⟩,st',fun b hb=>(hf b hb).1⟩⟩
 done:=by
  intro X hP hw hK hc i pins s σ H E I hf st hg;obtain⟨ha,hi⟩:=hg;obtain⟨vs,e1,e2⟩:=hT;have lt:=gF e2;have g:s.heap.get? d=some o:=(I.hok d _ ha).1;have le:es.size=vs.length:=by rw[<-tW,e1,tX]
  obtain⟨f0,f1,f2,f3,f4,f5⟩:=hf it (by simp);exact og (I.ok.hd hc) st g hd (by omega) fun h' eb=>⟨rfl,I.turned (t':=s.toks) (fun b o hb e=>eb b o hb e) f0 f1 f3 f4 f5⟩
 self:=fun _ _ _ _ _ st h=>wpAny_pyIter_keyiter st h
section
variable{X:Cx}{tg:Expr}
def tK(P:Program)(w:World)(tl:TE):TI:=fun σ H R=>tl σ H fun x H1=>∃d o T,x=.ref d/\H1 d=some (bY d o)/\jo P w o T/\(d==sysModules)=false/\R (Itc d o T) H1
theorem qQ{l:Expr}{tl:TE}(hl:PE X l tl):PI X tg l (tK X.prog X.w tl):=by
 intro pins s σ H R I h;refine thn (hl pins s σ H _ I h) fun v s1 hPz=>?_;obtain⟨x,H1,I1,r1,q1⟩:=hPz;obtain⟨d,o,T,rfl,hd,ho,nm,q⟩:=q1;cases r1;obtain⟨es,ep,vs,e1,e2,e3,e4⟩:=ho.es;have g:s1.heap.get? d=some o:=(I1.hok d _ hd).1;refine kL nm g ho.ex e1 ?_;refine⟨s1.heap.objs.size,[s1.heap.objs.size],_,_,H1,rfl,I1.kept (t':=s1.toks) fun b o e=>tR _ e,ni d _ o T e1 ⟨vs,e2,e3⟩,⟨_,um _ rfl,rfl,rfl⟩,fun b hb=>?_,q⟩;have e:b=s1.heap.objs.size:=by simpa using hb
 subst e;exact I1.fpOk (uc _) (I1.hok.fresh (uc _))
theorem sT{d:Addr}{o:Obj}{T:CT}{g:TG}{tt:TT}{te:TE}{σ0:St}{Q:Hp->Prop}{D:Addr}{H:Hp}(Pv:Nat->List V->Hp->Prop)(h0:Pv 0 [] H)(hl:∀i acc H,i<=T.length->Pv i acc H->H d=some (bY d o))
  (hs:∀i t acc H2,T[i]?=some t->Pv i acc H2->g (.ref t.2.1) σ0 H2 fun σ2 H4=>tt σ2 H4 fun b H5=>if b=true then te σ2 H5 fun y H6=>H6 D=some (.lst acc)/\acc.length<sizeLine/\Pv (i+1) (acc++[y]) (upd H6 D (.lst (acc++[y])))else Pv (i+1) acc H5)
  (hd:∀acc H2,Pv T.length acc H2->Q H2):
  ∃W:Nat->Nat->List V->Hp->Prop,(∃m,W 0 m [] H)/\∀i m acc H2,W i m acc H2->
   ((Itc d o T).stop i H2/\Q H2)\/((Itc d o T).go i H2/\∃N:List V->Hp->Prop,(∀acc' H',N acc' H'->∃m',m'<m/\W (i+1) m' acc' H')/\∀x H3,(Itc d o T).yld i H2 x H3->g x σ0 H3 fun σ2 H4=>tt σ2 H4 fun b H5=>if b=true then te σ2 H5 fun y H6=>H6 D=some (.lst acc)/\acc.length<sizeLine/\N (acc++[y]) (upd H6 D (.lst (acc++[y])))else N acc H5):=by
 refine⟨fun i m acc H=>m=T.length-i/\i<=T.length/\Pv i acc H,⟨T.length,by simp,uJ _,h0⟩,?_⟩;rintro i m acc H2 ⟨rfl,hi,p⟩;have q:=hl i acc H2 hi p;by_cases hlt:i<T.length
 ·refine .inr ⟨⟨q,hlt⟩,Pv (i+1),fun acc' H' p'=>⟨T.length-(i+1),by omega,rfl,hlt,p'⟩,fun x H3 y=>?_⟩;obtain⟨e,t,ht,rfl⟩:=y;subst e;exact hs i t acc _ ht p
 ·have e:i=T.length:=by omega
  subst e;exact .inl ⟨⟨q,uc _⟩,hd acc H2 p⟩
end
end L2
namespace L2
open PySem PySem.Spec PyProof.Rows
open LM (tG)
theorem mD{T:CT}{c:Col}{b:Addr}{v:V}{P:Col×Addr×V->Prop}(hT:∀t∈T,P t)(hn:P (c,b,v))(hs:∀t,P t->∀u,P (t.1,t.2.1,u)):∀t∈cQ T c b v,P t:=by
 intro t ht;unfold cQ at ht;split at ht
 ·obtain⟨u,hu,rfl⟩:=uu.mp ht;split
  ·exact hs u (hT u hu) v
  ·exact hT u hu
 ·rcases ub.mp ht with a|a
  ·exact hT t a
  ·rw[ua.mp a];exact hn
end L2
namespace L2
open PySem PySem.Spec PyProof.Rows
theorem jD{K:Frag}{H:Hp}:∀(r:List Key),fC K H (r.map cB) (r.map kV)
 | []=>.nil
 |k::r=>by
  refine .cons ?_ (jD r);cases k with
  |inl i=>exact .int i
  |inr x=>exact .str x
theorem dO.isD{K:Frag}{H:Hp}{b:Addr}{c:Col}(h:dO K H b c):IsD K H (kO c) (.ref b):=by
 obtain⟨l,xs,h1,h2⟩:=h;refine .tup h1 ?_;clear h1 l
 induction h2 with
 |nil=>exact .nil
 |cons a _ ih=>obtain⟨x,rfl,hx⟩:=a;exact .cons (.tup hx (jD _)) ih
theorem ql{m k t:Nat}(h:m.testBit k=false):(m+2^k).testBit t=(m.testBit t||decide (t=k)):=by
 have p:=Nat.two_pow_pos k;have h0:m / 2^k % 2=0:=by rw[Nat.testBit_eq_decide_div_mod_eq]at h;have:=of_decide_eq_false h;omega
 obtain⟨q,hq⟩:∃q,m / 2^k=2*q:=⟨m / 2^k / 2,by omega⟩;have em:m=2^k*(2*q)+m % 2^k:=by rw[<-hq];exact(Nat.div_add_mod m (2^k)).symm
 have lt:m % 2^k<2^k:=Nat.mod_lt _ p;generalize m % 2^k=r at em lt;have e2:m+2^k=2^k*(2*q+1)+r:=by rw[em,Nat.mul_add,Nat.mul_one];omega
 rw[e2,em,Nat.testBit_two_pow_mul_add _ lt,Nat.testBit_two_pow_mul_add _ lt];by_cases z:t<k
 ·rw[tU z,tU z,tQ (by omega),Bool.or_false]
 ·rw[tV z,tV z];by_cases w:t=k
  ·subst w;rw[Nat.sub_self,tS rfl,Bool.or_true,Nat.testBit_zero];exact tS (by omega)
  ·rw[tQ w,Bool.or_false];obtain⟨n,hn⟩:∃n,t-k=n+1:=⟨t-k-1,by omega⟩;rw[hn,Nat.testBit_succ,Nat.testBit_succ];congr 1;omega
section
variable{X:Cx}{pins:List (Addr×Obj)}{σ:St}{H:Hp}{s:Shared}{h':Heap}
theorem oW{t':Nat}{e it T:Addr}{xs:List V}(I:Inv X pins σ H s)(k:∀b o,b≠e->b≠it->s.heap.get? b=some o->h'.get? b=some o)(he:fE X pins H e)(hi:fE X pins H it)
  (hT:s.heap.objs.size<=T) (new:bE X.prog X.w (upd H T (.tup xs)) h' T (.tup xs)):Inv X pins σ (upd H T (.tup xs)) {s with heap:=h',toks:=t'}:=by
 obtain⟨e0,e1,e2,e3,e4,e5⟩:=he;obtain⟨i0,i1,i2,i3,i4,i5⟩:=hi;have hn:H T=none:=I.hok.fresh hT;have nt:∀b o,s.heap.get? b=some o->b≠T:=fun b o g z=>absurd (ud (t9 g) (z▸hT)) (Nat.lt_irrefl _);have ue:∀b u,H b=some u->upd H T (.tup xs) b=some u:=fun b u g=>by rw[ax (bN g hn)];exact g
 have k2:∀b o,b∉[e,it]->s.heap.get? b=some o->h'.get? b=some o:=fun b o hb g=>k b o (fun z=>hb (by simp[z])) (fun z=>hb (by simp[z])) g;refine I.step (g':=s.gens) (d':=s.drawn) (ch:=[e,it]) (fun b hb=>?_) (fun b o _ _ hc g _=>k2 b o hc g) (fun b o _ _ hc g _=>⟨o.slots,k2 b o hc g⟩) (fun b o _ g n=>by rw[ax (nt b o g)];exact n)
  (fun b o hc g=>⟨o,k2 b o hc g⟩) (fun b ys g=>ue b _ g) (fun b o u g=>ue b _ g) (fun b ps g=>⟨#[],by rw[ue b _ g];simp⟩) (fun m hm=>?_) (fun b u g=>?_) I.bare
 ·have z:b=e\/b=it:=by simpa using hb
  rcases z with rfl|rfl
  ·exact⟨e3,e1,e4,e5⟩
  ·exact⟨i3,i1,i4,i5⟩
 ·obtain⟨o,es,ep,ho,r⟩:=hm;exact⟨o,es,ep,k _ o (Ne.symm e1) (Ne.symm i1) ho,r⟩
 ·by_cases hb:b=T
  ·subst hb;rw[ae]at g;cases g;exact new
  ·rw[ax hb]at g;refine(I.hok b u g).stay (fun c v hc q=>?_) (fun c q=>ue c _ q) fun c ys q=>ue c _ q;have z:∃u',H c=some u':=by
    rcases hc with z|z
    ·exact⟨u,z▸g⟩
    ·exact⟨_,z⟩
   obtain⟨u',z⟩:=z;exact k c v (fun y=>by rw[y,e0]at z;cases z) (fun y=>by rw[y,i0]at z;cases z) q
end
end L2
namespace L2
open PySem PySem.Spec PyProof.Rows LM
theorem veq{a b:Int}:decide (V.int a=V.int b)=true<->a=b:=⟨fun h=>V.int.inj (vd h),fun h=>tS (congrArg V.int h)⟩
end L2
namespace L2
open PySem PyProof.Rows
noncomputable abbrev SM(α:Type):=StateT SortSt Sem α
noncomputable def rz(bq:Nat->SM (Option Bool))(n hint:Nat):SM (Option Nat):=do
 let mut lastofs:=0
 let mut ofs:=1
 let mut lo:=0
 let mut hi:=0
 let some right <-bq hint|return none
 if right then
  let maxofs:=n-hint
  for _ in[0:n] do
   if ofs>=maxofs then break
   let some more <-bq (hint+ofs)|return none
   if !more then break
   lastofs:=ofs
   ofs:=2*ofs+1
  lo:=hint+lastofs+1
  hi:=hint+min ofs maxofs
 else
  let maxofs:=hint+1
  for _ in[0:n] do
   if ofs>=maxofs then break
   let some found <-bq (hint-ofs)|return none
   if found then break
   lastofs:=ofs
   ofs:=2*ofs+1
  lo:=hint+1-min ofs maxofs
  hi:=hint-lastofs
 for _ in[0:n] do
  if lo>=hi then break
  let m:=lo+(hi-lo) / 2
  let some more <-bq m|return none
  if more then lo:=m+1 else hi:=m
 return some hi
noncomputable def cU:Bool->Keyed->Array Keyed->Nat->Nat->Nat->SM (Option Nat):=sortPriv% PySem.Builtin.gallop
noncomputable def bey(left:Bool)(key:Keyed)(arr:Array Keyed)(base i:Nat):SM (Option Bool):=do
 let x <-elem' arr (base+i)
 if left then lt' x key else return (<-lt' key x).map (!·)
theorem j3(left:Bool)(key:Keyed)(arr:Array Keyed)(base n hint:Nat):cU left key arr base n hint=rz (bey left key arr base) n hint:=rfl
section
variable{prog:Program}{w:World}{A:Around}{E:Value->Shared->Prop}{s:Shared}
theorem ju{bq:Nat->SM (Option Bool)}{n lo hi:Nat}{st:SortSt}{Q:Option Nat->SortSt->Prop}{f:Nat->Option (Option Nat)×Nat×Nat->SM (ForInStep (Option (Option Nat)×Nat×Nat))}{g:Option (Option Nat)×Nat×Nat->SM (Option Nat)}
  {k:Nat->Nat->Option Bool->SM (ForInStep (Option (Option Nat)×Nat×Nat))}
  (hf:∀x l r,f x (none,l,r)=if l>=r then pure (ForInStep.done (none,l,r))else bq (l+(r-l) / 2)>>= k l r)
  (hk:∀l r b,k l r (some b)=if b=true then pure (ForInStep.yield (none,l+(r-l) / 2+1,r))else pure (ForInStep.yield (none,l,l+(r-l) / 2)))
  (hg:∀l r,g (none,l,r)=pure (some r)) (B:Nat->Bool)
  (hb:∀i,i<n->∀(R:Option Bool->SortSt->Prop),R (some (B i)) st->wpS (model prog w) A E s (bq i) R st) (mono:∀i j,i<=j->j<n->B j=true->B i=true) (h1:lo<=hi) (h2:hi<=n)
  (h3:∀i,i<lo->B i=true) (h4:∀i,hi<=i->i<n->B i=false)
  (h:∀k,k<=n->(∀i,i<k->B i=true)->(∀i,k<=i->i<n->B i=false)->Q (some k) st):wpS (model prog w) A E s (forIn [:n] (none,lo,hi) f>>= g) Q st:=by
 refine tP (wpS_mono (uS (I:=fun x c st'=>st'=st/\∃l r,c=(none,l,r)/\l<=r/\r<=n/\r-l<=n-x/\(∀i,i<l->B i=true)/\∀i,r<=i->i<n->B i=false) (Q:=fun c st'=>st'=st/\∃k,c=(none,k,k)/\k<=n/\(∀i,i<k->B i=true)/\∀i,k<=i->i<n->B i=false) ?step ?fin ⟨rfl,lo,hi,rfl,h1,h2,by omega,h3,h4⟩) ?post)
 case post=>rintro c st' ⟨rfl,k,rfl,k1,k2,k3⟩;rw[hg];exact tT (h k k1 k2 k3)
 case fin=>
  rintro c st' ⟨rfl,l,r,rfl,a1,a2,a3,a4,a5⟩;have:l=r:=by omega
  subst this;exact⟨rfl,l,rfl,a2,a4,a5⟩
 case step=>
  rintro x c st' _ hx ⟨rfl,l,r,rfl,a1,a2,a3,a4,a5⟩;rw[hf];by_cases hge:l>=r
  ·rw[tU hge];have:l=r:=(by omega);subst this;exact tT ⟨rfl,l,rfl,a2,a4,a5⟩
  ·rw[tV hge];refine tP (hb _ (by omega) _ ?_);rw[hk];cases hm:B (l+(r-l) / 2)with
   |true=>rw[tU rfl];exact tT ⟨rfl,_,r,rfl,by omega,a2,by omega,fun i hi=>mono i _ (by omega) (by omega) hm,a5⟩
   |false=>
    rw[tV (by decide)];refine tT ⟨rfl,l,_,rfl,by omega,by omega,by omega,a4,fun i hi hn=>?_⟩;cases hi':B i with
    |false=>rfl
    |true=>rw[mono _ i hi hn hi']at hm;cases hm
theorem m8{bq:Nat->SM (Option Bool)}{n hint:Nat}{st:SortSt}{Q:Option Nat->SortSt->Prop}(B:Nat->Bool)
  (hb:∀i,i<n->∀(R:Option Bool->SortSt->Prop),R (some (B i)) st->wpS (model prog w) A E s (bq i) R st) (mono:∀i j,i<=j->j<n->B j=true->B i=true) (hh:hint<n)
  (h:∀k,k<=n->(∀i,i<k->B i=true)->(∀i,k<=i->i<n->B i=false)->Q (some k) st):wpS (model prog w) A E s (rz bq n hint) Q st:=by
 unfold rz;refine tP (hb hint hh _ ?_);dsimp only;cases h0:B hint with
 |true=>
  rw[tU rfl];refine tP (wpS_mono (uS (I:=fun x c st'=>st'=st/\∃l o,c=(none,l,o)/\l<o/\x+1<=o/\hint+l<n/\B (hint+l)=true) (Q:=fun c st'=>st'=st/\∃l o,c=(none,l,o)/\l<o/\hint+l<n/\B (hint+l)=true/\(n-hint<=o\/(hint+o<n/\B (hint+o)=false))) ?step ?fin ⟨rfl,0,1,rfl,by omega,by omega,by omega,h0⟩) ?post)
  case fin=>rintro c st' ⟨rfl,l,o,rfl,a1,a2,a3,a4⟩;exact⟨rfl,l,o,rfl,a1,a3,a4,.inl (by omega)⟩
  case step=>
   rintro x c st' _ hx ⟨rfl,l,o,rfl,a1,a2,a3,a4⟩;dsimp only;by_cases hge:o>=n-hint
   ·rw[tU hge];exact tT ⟨rfl,l,o,rfl,a1,a3,a4,.inl hge⟩
   ·rw[tV hge];refine tP (hb _ (by omega) _ ?_);dsimp only;cases hm:B (hint+o)with
    |true=>rw[tV (by decide)];exact tT ⟨rfl,o,_,rfl,by omega,by omega,by omega,hm⟩
    |false=>rw[tU (by decide)];exact tT ⟨rfl,l,o,rfl,a1,a3,a4,.inr ⟨by omega,hm⟩⟩
  case post=>
   rintro c st' ⟨rfl,l,o,rfl,a1,a3,a4,a5⟩;dsimp only;refine ju (bq:=bq) (fun _ _ _=>rfl) (fun _ _ _=>rfl) (fun _ _=>rfl) B hb mono ?_ ?_ (fun i hi=>mono i _ (by have hi':i<hint+l+1:=hi;omega) (by omega) a4) (fun i hi hn=>?_) h
   ·show hint+l+1<=hint+min o (n-hint);omega
   ·show hint+min o (n-hint)<=n;omega
   ·have hi':hint+min o (n-hint)<=i:=hi;rcases a5 with z|⟨z1,z2⟩
    ·omega
    ·cases hb':B i with
     |false=>rfl
     |true=>rw[mono (hint+o) i (by omega) hn hb']at z2;cases z2
 |false=>
  rw[tV (by decide)];refine tP (wpS_mono (uS (I:=fun x c st'=>st'=st/\∃l o,c=(none,l,o)/\l<o/\x+1<=o/\l<=hint/\B (hint-l)=false) (Q:=fun c st'=>st'=st/\∃l o,c=(none,l,o)/\l<o/\l<=hint/\B (hint-l)=false/\(hint+1<=o\/(o<=hint/\B (hint-o)=true))) ?step ?fin ⟨rfl,0,1,rfl,by omega,by omega,by omega,h0⟩) ?post)
  case fin=>rintro c st' ⟨rfl,l,o,rfl,a1,a2,a3,a4⟩;exact⟨rfl,l,o,rfl,a1,a3,a4,.inl (by omega)⟩
  case step=>
   rintro x c st' _ hx ⟨rfl,l,o,rfl,a1,a2,a3,a4⟩;dsimp only;by_cases hge:o>=hint+1
   ·rw[tU hge];exact tT ⟨rfl,l,o,rfl,a1,a3,a4,.inl hge⟩
   ·rw[tV hge];refine tP (hb _ (by omega) _ ?_);dsimp only;cases hm:B (hint-o)with
    |false=>rw[tV (by decide)];exact tT ⟨rfl,o,_,rfl,by omega,by omega,by omega,hm⟩
    |true=>rw[tU rfl];exact tT ⟨rfl,l,o,rfl,a1,a3,a4,.inr ⟨by omega,hm⟩⟩
  case post=>
   rintro c st' ⟨rfl,l,o,rfl,a1,a3,a4,a5⟩;dsimp only;refine ju (bq:=bq) (fun _ _ _=>rfl) (fun _ _ _=>rfl) (fun _ _=>rfl) B hb mono ?_ ?_ (fun i hi=>?_) (fun i hi hn=>?_) h
   ·show hint+1-min o (hint+1)<=hint-l;omega
   ·show hint-l<=n;omega
   ·have hi':i<hint+1-min o (hint+1):=hi;rcases a5 with z|⟨z1,z2⟩
    ·omega
    ·exact mono i _ (by omega) (by omega) z2
   ·have hi':hint-l<=i:=hi;cases hb':B i with
    |false=>rfl
    |true=>rw[mono (hint-l) i hi' hn hb']at a4;cases a4
end
end L2
namespace LT
open PySem PyProof.Rows L2
class KN where
 kn:Keyed->Int
 isK:Keyed->Prop
 kd:type_of% oneType'
class gM(prog:Program)(w:World)(A:Around)(E:Value->Shared->Prop)(s:Shared)[KN]:Prop where
 lt:∀{st:SortSt}{x y:Keyed}{Q:Option Bool->SortSt->Prop},kindOf st=KN.kd->KN.isK x->KN.isK y->Q (some (decide (KN.kn x<KN.kn y))) st->wpS (model prog w) A E s (lt' x y) Q st
variable[KN]
noncomputable def kn(p:Keyed):Int:=KN.kn p
def IsK(p:Keyed):Prop:=KN.isK p
noncomputable abbrev kd0:type_of% oneType':=KN.kd
noncomputable def K(xs:Array Keyed)(i:Nat):Int:=match xs[i]? with
 |some p=>kn p
 |none=>0
def SortedTo(xs:Array Keyed)(k:Nat):Prop:=∀i j,i<=j->j<k->K xs i<=K xs j
def fm(xs:Array Keyed):Prop:=∀p,p∈xs.toList->IsK p
theorem K_congr{xs ys:Array Keyed}{i j:Nat}(h:xs[i]?=ys[j]?):K xs i=K ys j:=by unfold K;rw[h]
theorem K_bubble{xs:Array Keyed}{src d:Nat}(hs:src<xs.size)(hd:d<=src)(k:Nat):K (bubble xs src d) k=if k=src-d then K xs src else if src-d<k/\k<=src then K xs (k-1)else K xs k:=by
 have e:=getElem?_bubble hs d hd k;split
 ·rename_i h;rw[tU h]at e;exact K_congr e
 ·rename_i h;rw[tV h]at e;split
  ·rename_i h2;rw[tU h2]at e;exact K_congr e
  ·rename_i h2;rw[tV h2]at e;exact K_congr e
theorem K_mirror{xs:Array Keyed}{i j:Nat}(hj:j<=xs.size)(k:Nat):K (mirror xs i j ((j-i) / 2)) k=if i<=k/\k<j then K xs (i+j-1-k)else K xs k:=by
 have e:=getElem?_mirror_all (i:=i) hj k;split
 ·rename_i h;rw[tU h]at e;exact K_congr e
 ·rename_i h;rw[tV h]at e;exact K_congr e
theorem K_mirror_equal{xs:Array Keyed}{i j:Nat}(hj:j<=xs.size)(heq:∀k,i<=k->k<j->K xs k=K xs (j-1))(k:Nat):K (mirror xs i j ((j-i) / 2)) k=K xs k:=by
 rw[K_mirror hj];split
 ·rw[heq _ (by omega) (by omega),heq k (by omega) (by omega)]
 ·rfl
section
variable{prog:Program}{w:World}{A:Around}{E:Value->Shared->Prop}{s:Shared}[gM prog w A E s]
theorem eP{st:SortSt}{x y:Keyed}{Q:Option Bool->SortSt->Prop}(hk:kindOf st=kd0)(hx:IsK x)(hy:IsK y)(h:Q (some (decide (kn x<kn y))) st):wpS (model prog w) A E s (lt' x y) Q st:=gM.lt hk hx hy h
theorem aA{st:SortSt}{arr:Array Keyed}{i:Nat}{p:Keyed}{Q:Keyed->SortSt->Prop}(e:arr[i]?=some p)(h:Q p st):wpS (model prog w) A E s (elem' arr i) Q st:=by rw[elem'_eq,e];exact tT h
theorem cS{left:Bool}{key:Keyed}{arr:Array Keyed}{base n hint:Nat}{st:SortSt}{Q:Option Nat->SortSt->Prop}(xs:List Keyed)(hk:kindOf st=kd0)(hkey:IsK key)(hx:∀x∈xs,IsK x)
  (hn:xs.length=n) (ha:∀i,i<n->arr[base+i]?=xs[i]?) (so:xs.Pairwise fun a b=>kn a<=kn b) (hh:hint<n)
  (h:∀k,k<=n->(∀x∈xs.take k,if left=true then kn x<kn key else kn x<=kn key)->(∀x∈xs.drop k,if left=true then kn key<=kn x else kn key<kn x)->Q (some k) st):wpS (model prog w) A E s (cU left key arr base n hint) Q st:=by
 rw[j3];have le:∀i j(hi:i<xs.length)(hj:j<xs.length),i<=j->kn xs[i]<=kn xs[j]:=fun i j hi hj hij=>by
  rcases Nat.lt_or_eq_of_le hij with z|z
  ·exact uY.mp so i j hi hj z
  ·subst z;exact vq _
 refine m8 (fun i=>match xs[i]? with|some x=>if left=true then decide (kn x<kn key)else !decide (kn key<kn x)|none=>false) (fun i hi R hR=>?_) (fun i j hij hj b=>?_) hh fun k k1 k2 k3=>h k k1 (fun x hx'=>?_) (fun x hx'=>?_)
 ·have e:xs[i]?=some xs[i]:=ui (by omega);unfold bey;refine tP (aA ((ha i hi).trans e) ?_);rw[e]at hR;dsimp only at hR;have hxi:=hx _ (List.getElem_mem (show i<xs.length by omega));cases left with
  |true=>rw[tU rfl]at hR ⊢;exact eP hk hxi hkey hR
  |false=>rw[tV (by decide)]at hR ⊢;exact tP (eP hk hkey hxi (tT hR))
 ·have ei:xs[i]?=some xs[i]:=ui (by omega);have ej:xs[j]?=some xs[j]:=ui (by omega);have l:=le i j (by omega) (by omega) hij;rw[ej]at b;rw[ei];dsimp only at b ⊢;cases left with
  |true=>rw[tU rfl]at b ⊢;have:=vd b;exact tS (by omega)
  |false=>rw[tV (by decide),Bool.not_eq_true',decide_eq_false_iff_not]at b ⊢;omega
 ·obtain⟨i,hi,rfl⟩:=List.getElem_of_mem hx';rw[uf]at hi;rw[List.getElem_take];have:=k2 i (by omega);rw[ui (show i<xs.length by omega)]at this;dsimp only at this;cases left with
  |true=>rw[tU rfl]at this ⊢;exact vd this
  |false=>rw[tV (by decide)]at this ⊢;rw[Bool.not_eq_true',decide_eq_false_iff_not]at this;omega
 ·obtain⟨i,hi,rfl⟩:=List.getElem_of_mem hx';rw[vp]at hi;rw[List.getElem_drop];have:=k3 (k+i) (by omega) (by omega);rw[ui (show k+i<xs.length by omega)]at this;dsimp only at this;cases left with
  |true=>rw[tU rfl]at this ⊢;rw[decide_eq_false_iff_not]at this;omega
  |false=>rw[tV (by decide)]at this ⊢;rw[Bool.not_eq_false',uE]at this;exact this
end
end LT
namespace LT
open PySem PyProof.Rows L2
variable[KN]
noncomputable def jV:Array Keyed->Array Keyed->SM (Array Keyed):=sortPriv% PySem.Builtin.mergeLo
noncomputable abbrev setG(z:SortSt)(g:Nat):SortSt:=SortSt.mk' (kindOf z) (arrOf z) (pendingOf z) g (failedOf z)
noncomputable def rf(a b:Array Keyed):SM (Array Keyed):=do
 rule "list.sort.merge-lo"
 let tot:=a.size+b.size
 let dn (ot:Array Keyed) (ja jb:Nat):=ot++a.extract ja a.size++b.extract jb b.size
 let la (ot:Array Keyed) (ja jb:Nat):=ot++b.extract jb b.size++a.extract ja a.size
 let mut ot:Array Keyed:= #[<-elem' b 0]
 let mut ja:=0
 let mut jb:=1
 if jb==b.size then return dn ot ja jb
 if ja+1==a.size then return la ot ja jb
 let mut mg:=gallopOf (<-get)
 for _ in[0:tot] do
  let mut ac:=0
  let mut bc:=0
  for _ in[0:tot] do
   let some bw <-lt' (<-elem' b jb) (<-elem' a ja)|return dn ot ja jb
   if bw then
    ot:=ot.push (<-elem' b jb);jb:=jb+1;bc:=bc+1;ac:=0
    if jb==b.size then return dn ot ja jb
    if bc>=mg then break
   else
    ot:=ot.push (<-elem' a ja);ja:=ja+1;ac:=ac+1;bc:=0
    if ja+1==a.size then return la ot ja jb
    if ac>=mg then break
  rule "list.sort.gallop"
  mg:=mg+1
  for _ in[0:tot] do
   if mg>1 then mg:=mg-1
   (modify fun z=>setG z mg)
   let some k <-cU false (<-elem' b jb) a ja (a.size-ja) 0|return dn ot ja jb
   ac:=k
   if k>0 then
    ot:=ot++a.extract ja (ja+k);ja:=ja+k
    if ja+1==a.size then return la ot ja jb
    if ja==a.size then return dn ot ja jb
   ot:=ot.push (<-elem' b jb);jb:=jb+1
   if jb==b.size then return dn ot ja jb
   let some k <-cU true (<-elem' a ja) b jb (b.size-jb) 0|return dn ot ja jb
   bc:=k
   if k>0 then
    ot:=ot++b.extract jb (jb+k);jb:=jb+k
    if jb==b.size then return dn ot ja jb
   ot:=ot.push (<-elem' a ja);ja:=ja+1
   if ja+1==a.size then return la ot ja jb
   if ac<7&&bc<7 then break
  mg:=mg+1
  (modify fun z=>setG z mg)
 unsupported "internal:list.sort.merge-bound"
theorem kF(a b:Array Keyed):jV a b=rf a b:=rfl
structure Mg(a b out:List Keyed)(i j:Nat):Prop where
 pm:out.Perm (a.take i++b.take j)
 so:out.Pairwise fun x y=>kn x<=kn y
 le:∀x∈out,∀y∈a.drop i++b.drop j,kn x<=kn y
def Mgd(a b out:List Keyed):Prop:=out.Perm (a++b)/\out.Pairwise fun x y=>kn x<=kn y
abbrev So(a:List Keyed):Prop:=a.Pairwise fun x y=>kn x<=kn y
theorem So.drop{a:List Keyed}(h:So a)(i:Nat):So (a.drop i):=List.Pairwise.sublist (List.drop_sublist i a) h
theorem fg{a:List Keyed}{i:Nat}{x:Keyed}(h:a[i]?=some x):a.drop i=x::a.drop (i+1):=by obtain⟨hi,e⟩:=t8.mp h;rw[<-e,List.getElem_cons_drop]
theorem iH{a:List Keyed}{i:Nat}{x:Keyed}(h:a[i]?=some x):a.take (i+1)=a.take i++[x]:=by rw[uq,h];rfl
theorem Mg.pushB{a b out:List Keyed}{i j:Nat}{x:Keyed}(h:Mg a b out i j)(sb:So b)(e:b[j]?=some x)(hl:∀y∈a.drop i,kn x<=kn y):Mg a b (out++[x]) i (j+1):=by
 have db:=fg e;have sx:=sb.drop j;rw[db]at sx;refine⟨?_,?_,fun y hy z hz=>?_⟩
 ·rw[iH e,<-uk];exact h.pm.append_right _
 ·refine uB.mpr ⟨h.so,vu _ _,fun y hy z hz=>?_⟩;rw[ua.mp hz];exact h.le y hy x (ux _ (by rw[db];exact tY ..))
 ·rcases ub.mp hy with w|w
  ·refine h.le y w z ?_;rcases ub.mp hz with v|v
   ·exact vj _ v
   ·exact ux _ (by rw[db];exact t6 _ v)
  ·rw[ua.mp w];rcases ub.mp hz with v|v
   ·exact hl z v
   ·exact(List.pairwise_cons.mp sx).1 z v
theorem Mg.swap{a b out:List Keyed}{i j:Nat}(h:Mg a b out i j):Mg b a out j i:=
 ⟨h.pm.trans List.perm_append_comm,h.so,fun x hx y hy=>h.le x hx y (by rcases ub.mp hy with v|v;exact ux _ v;exact vj _ v)⟩
theorem Mg.pushA{a b out:List Keyed}{i j:Nat}{x:Keyed}(h:Mg a b out i j)(sa:So a)(e:a[i]?=some x)(hl:∀y∈b.drop j,kn x<=kn y):Mg a b (out++[x]) (i+1) j:=(h.swap.pushB sa e hl).swap
theorem Mg.bulkA{a b:List Keyed}(sa:So a){j:Nat}:∀(k:Nat){out:List Keyed}{i:Nat},Mg a b out i j->i+k<=a.length->(∀x∈(a.drop i).take k,∀y∈b.drop j,kn x<=kn y)->Mg a b (out++(a.drop i).take k) (i+k) j
 | 0,out,i,h,_,_=>by rw[List.take_zero,uN];exact h
 |k+1,out,i,h,hk,hl=>by obtain⟨x,e⟩:∃x,a[i]?=some x:=⟨_,ui (by omega)⟩;have da:=fg e;rw[da,List.take_succ_cons]at hl ⊢;have h1:=h.pushA sa e (hl x (tY ..));have h2:=Mg.bulkA sa k h1 (by omega) (fun y hy=>hl y (t6 _ hy));rw[uk,List.singleton_append]at h2;rw[show i+(k+1)=i+1+k by omega];exact h2
theorem Mg.bulkB{a b:List Keyed}(sb:So b){i:Nat}(k:Nat){out:List Keyed}{j:Nat}(h:Mg a b out i j)(hk:j+k<=b.length)(hl:∀x∈(b.drop j).take k,∀y∈a.drop i,kn x<=kn y):Mg a b (out++(b.drop j).take k) i (j+k):=
 (Mg.bulkA sb k h.swap hk hl).swap
theorem Mg.fin{a b out:List Keyed}{i j:Nat}(h:Mg a b out i j)(sa:So a)(sb:So b)(hc:∀x∈a.drop i,∀y∈b.drop j,kn x<=kn y):Mgd a b (out++a.drop i++b.drop j):=by
 refine⟨?_,?_⟩
 ·have p1:(out++a.drop i++b.drop j).Perm ((a.take i++b.take j)++(a.drop i++b.drop j)):=by
   rw[uk];exact h.pm.append_right _
  refine p1.trans ?_;have p2:((a.take i++b.take j)++(a.drop i++b.drop j)).Perm ((a.take i++a.drop i)++(b.take j++b.drop j)):=by rw[uk,uk];refine List.Perm.append_left _ ?_;rw[<-uk,<-uk];exact List.perm_append_comm.append_right _
  rw[uM,uM]at p2;exact p2
 ·rw[uk];refine uB.mpr ⟨h.so,uB.mpr ⟨sa.drop i,sb.drop j,hc⟩,h.le⟩
theorem Mgd.swap{a b out:List Keyed}(h:Mgd b a out):Mgd a b out:=⟨h.1.trans List.perm_append_comm,h.2⟩
theorem cp{a:Array Keyed}{i j:Nat}:(a.extract i j).toList=(a.toList.drop i).take (j-i):=by simp[Array.toList_extract,List.extract_eq_take_drop]
theorem ee{a:Array Keyed}{i:Nat}:(a.extract i a.size).toList=a.toList.drop i:=by rw[cp,List.take_of_length_le];rw[vp,tW];omega
section
variable{prog:Program}{w:World}{A:Around}{E:Value->Shared->Prop}{s:Shared}[gM prog w A E s]
structure SmG(st st':SortSt):Prop where
 kd:kindOf st'=kindOf st
 ar:arrOf st'=arrOf st
 pd:pendingOf st'=pendingOf st
 fl:failedOf st'=failedOf st
theorem SmG.refl(st:SortSt):SmG st st:=⟨rfl,rfl,rfl,rfl⟩
theorem SmG.g{st st':SortSt}(h:SmG st st')(g:Nat):SmG st (setG st' g):=⟨h.kd,h.ar,h.pd,h.fl⟩
theorem fv{a b ot:Array Keyed}{ja jb:Nat}(h:Mg a.toList b.toList ot.toList ja jb)(sa:So a.toList)(sb:So b.toList)(e:jb=b.size):Mgd a.toList b.toList (ot++a.extract ja a.size++b.extract jb b.size).toList:=by rw[uo,uo,ee,ee];refine h.fin sa sb fun x _ y hy=>?_;rw[vl (by rw[tW];omega)]at hy;cases hy
theorem ri{a b ot:Array Keyed}{ja jb:Nat}(h:Mg a.toList b.toList ot.toList ja jb)(sa:So a.toList)(sb:So b.toList)(e:ja=a.size):Mgd a.toList b.toList (ot++a.extract ja a.size++b.extract jb b.size).toList:=by rw[uo,uo,ee,ee];refine h.fin sa sb fun x hx=>?_;rw[vl (by rw[tW];omega)]at hx;cases hx
theorem gz{a b ot:Array Keyed}{ja jb:Nat}(h:Mg a.toList b.toList ot.toList ja jb)(sa:So a.toList)(sb:So b.toList)(h2:∀x∈b.toList,∀y,a.toList[a.size-1]?=some y->kn x<=kn y)(e:ja+1=a.size):
  Mgd a.toList b.toList (ot++b.extract jb b.size++a.extract ja a.size).toList:=by
 rw[uo,uo,ee,ee];refine(h.swap.fin sb sa fun x hx y hy=>?_).swap;obtain⟨z,ez⟩:∃z,a.toList[ja]?=some z:=⟨_,ui (by rw[tW];omega)⟩;rw[fg ez,vl (by rw[tW];omega),ua]at hy;rw[hy];exact h2 x (uW hx) z (by rw[show a.size-1=ja by omega];exact ez)
theorem bp{a:Array Keyed}{i:Nat}(h:i<a.size):∃x,a[i]?=some x/\a.toList[i]?=some x/\x∈a.toList:=
 ⟨a[i],vJ h,by rw[ui (by rw[tW];exact h),Array.getElem_toList],by simp⟩
theorem dY{a:List Keyed}(sa:So a){i:Nat}{x:Keyed}(e:a[i]?=some x):∀y∈a.drop i,kn x<=kn y:=fun y hy=>by
 have:=sa.drop i;rw[fg e]at this hy;rcases uy.mp hy with z|z
 ·rw[z];exact vq _
 ·exact(List.pairwise_cons.mp this).1 y z
theorem oK{a b:Array Keyed}{st:SortSt}{Q:Array Keyed->SortSt->Prop}(hk:kindOf st=kd0)(ka:∀x∈a.toList,IsK x)(kb:∀x∈b.toList,IsK x)(sa:So a.toList)(sb:So b.toList)(na:1<=a.size)(nb:1<=b.size)
  (h1:∀x,b.toList[0]?=some x->∀y∈a.toList,kn x<=kn y) (h2:∀x∈b.toList,∀y,a.toList[a.size-1]?=some y->kn x<=kn y)
  (h:∀m st',SmG st st'->Mgd a.toList b.toList m.toList->Q m st'):wpS (model prog w) A E s (rf a b) Q st:=by
 unfold rf;refine tP (wpS_lift (vN ⟨rfl,?_⟩));obtain⟨b0,e0,e0',m0⟩:=bp (a:=b) (i:=0) (by omega);refine tP (aA e0 ?_);have M0:Mg a.toList b.toList (#[b0]:Array Keyed).toList 0 1:=by have z:Mg a.toList b.toList [] 0 0:=⟨by simp,List.Pairwise.nil,fun _ hx=>nomatch hx⟩;exact z.pushB sb e0' (fun y hy=>h1 b0 e0' y (by simpa using hy))
 by_cases c1:(1==b.size)=true
 ·rw[tU c1];exact tT (h _ _ (SmG.refl st) (fv M0 sa sb (by simpa using c1)))
 rw[tV c1];by_cases c2:(0+1==a.size)=true
 ·rw[tU c2];exact tT (h _ _ (SmG.refl st) (gz M0 sa sb h2 (by simpa using c2)))
 rw[tV c2];have c1':1<b.size:=by
  have:¬1=b.size:=by simpa using c1
  omega
 have c2':0+1<a.size:=by
  have:¬0+1=a.size:=by simpa using c2
  omega
 refine tP (wpS_get ?_);refine tP (wpS_mono (uS (I:=fun x c st'=>SmG st st'/\∃ot ja jb mg,c=(none,ot,ja,jb,mg)/\Mg a.toList b.toList ot.toList ja jb/\ja+1<a.size/\jb<b.size/\x<ja+jb) (Q:=fun c st'=>SmG st st'/\∃r y,c=(some r,y)/\Mgd a.toList b.toList r.toList) ?step ?fin ⟨SmG.refl st,_,_,_,_,rfl,M0,c2',c1',by omega⟩) ?post)
 case fin=>rintro c st' ⟨_,ot,ja,jb,mg,_,_,l1,l2,l3⟩;omega
 case post=>rintro c st' ⟨sg,r,y,rfl,hr⟩;exact tT (h r st' sg hr)
 case step=>
  rintro x c st1 _ hx ⟨sg,ot,ja,jb,mg,rfl,M,l1,l2,l3⟩;dsimp only;refine tP (wpS_mono (uS (I:=fun x1 c st'=>st'=st1/\∃ot1 ja1 jb1 ac bc,c=(none,ot1,ja1,jb1,ac,bc)/\Mg a.toList b.toList ot1.toList ja1 jb1/\ja1+1<a.size/\jb1<b.size/\x1+(ja+jb)<=ja1+jb1) (Q:=fun c st'=>st'=st1/\((∃r y,c=(some r,y)/\Mgd a.toList b.toList r.toList)\/∃ot1 ja1 jb1 ac bc,c=(none,ot1,ja1,jb1,ac,bc)/\Mg a.toList b.toList ot1.toList ja1 jb1/\ja1+1<a.size/\jb1<b.size/\ja+jb<ja1+jb1)) ?step1 ?fin1 ⟨rfl,ot,ja,jb,0,0,rfl,M,l1,l2,by omega⟩) ?post1)
  case fin1=>rintro c st' ⟨_,ot1,ja1,jb1,ac,bc,_,_,m1,m2,m3⟩;omega
  case step1=>
   rintro x1 c st' _ hx1 ⟨rfl,ot1,ja1,jb1,ac,bc,rfl,M1,m1,m2,m3⟩;dsimp only;obtain⟨xb,eb,eb',mb⟩:=bp (a:=b) m2;obtain⟨xa,ea,ea',ma⟩:=bp (a:=a) (show ja1<a.size by omega);refine tP (aA eb (tP (aA ea (tP (eP (sg.kd.trans hk) (kb _ mb) (ka _ ma) ?_)))));dsimp only;by_cases bw:kn xb<kn xa
   ·rw[tS bw,tU rfl];refine tP (aA eb ?_);have M2:Mg a.toList b.toList (ot1.push xb).toList ja1 (jb1+1):=by
     rw[ur];exact M1.pushB sb eb' fun y hy=>vG (Int.lt_of_lt_of_le bw (dY sa ea' y hy))
    by_cases d1:(jb1+1==b.size)=true
    ·rw[tU d1];exact tT ⟨rfl,.inl ⟨_,_,rfl,fv M2 sa sb (by simpa using d1)⟩⟩
    rw[tV d1];have d1':¬jb1+1=b.size:=(by simpa using d1);by_cases d2:bc+1>=mg
    ·rw[tU d2];exact tT ⟨rfl,.inr ⟨_,_,_,_,_,rfl,M2,m1,by omega,by omega⟩⟩
    ·rw[tV d2];exact tT ⟨rfl,_,_,_,_,_,rfl,M2,m1,by omega,by omega⟩
   ·rw[tQ bw,tV (by decide)];refine tP (aA ea ?_);have M2:Mg a.toList b.toList (ot1.push xa).toList (ja1+1) jb1:=by
     rw[ur];exact M1.pushA sa ea' fun y hy=>vg (Int.not_lt.mp bw) (dY sb eb' y hy)
    by_cases d1:(ja1+1+1==a.size)=true
    ·rw[tU d1];exact tT ⟨rfl,.inl ⟨_,_,rfl,gz M2 sa sb h2 (by simpa using d1)⟩⟩
    rw[tV d1];have d1':¬ja1+1+1=a.size:=(by simpa using d1);by_cases d2:ac+1>=mg
    ·rw[tU d2];exact tT ⟨rfl,.inr ⟨_,_,_,_,_,rfl,M2,by omega,m2,by omega⟩⟩
    ·rw[tV d2];exact tT ⟨rfl,_,_,_,_,_,rfl,M2,by omega,m2,by omega⟩
  case post1=>
   rintro c st' ⟨rfl,⟨r,y,rfl,hr⟩|⟨ot1,ja1,jb1,ac,bc,rfl,M1,m1,m2,m3⟩⟩
   ·exact tT ⟨sg,r,_,rfl,hr⟩
   dsimp only;refine tP (wpS_lift (vN ⟨rfl,?_⟩));refine tP (wpS_mono (uS (I:=fun x2 c st'=>SmG st st'/\∃ot2 ja2 jb2 mg2 ac2 bc2,c=(none,ot2,ja2,jb2,mg2,ac2,bc2)/\Mg a.toList b.toList ot2.toList ja2 jb2/\ja2+1<a.size/\jb2<b.size/\x2+(ja1+jb1)<=ja2+jb2) (Q:=fun c st'=>SmG st st'/\((∃r y,c=(some r,y)/\Mgd a.toList b.toList r.toList)\/∃ot2 ja2 jb2 mg2 ac2 bc2,c=(none,ot2,ja2,jb2,mg2,ac2,bc2)/\Mg a.toList b.toList ot2.toList ja2 jb2/\ja2+1<a.size/\jb2<b.size/\ja1+jb1<=ja2+jb2)) ?step2 ?fin2 ⟨sg,ot1,ja1,jb1,_,_,_,rfl,M1,m1,m2,by omega⟩) ?post2)
   case fin2=>rintro c st' ⟨_,ot1,ja1,jb1,mg2,ac,bc,_,_,m1,m2,m3⟩;omega
   case post2=>
    rintro c st2 ⟨sg2,⟨r,y,rfl,hr⟩|⟨ot2,ja2,jb2,mg2,ac2,bc2,rfl,M2,o1,o2,o3⟩⟩
    ·exact tT ⟨sg2,r,_,rfl,hr⟩
    dsimp only;refine tP (vM ?_);exact tT ⟨sg2.g _,_,_,_,_,rfl,M2,o1,o2,by omega⟩
   case step2=>
    rintro x2 c st2 _ hx2 ⟨sg2,ot2,ja2,jb2,mg2,ac2,bc2,rfl,M2,o1,o2,o3⟩;dsimp only;obtain⟨xb,eb,eb',mb⟩:=bp (a:=b) o2;rcases Nat.lt_or_ge 1 mg2 with hmg|hmg
    all_goals
     first|rw[tU hmg]|rw[tV (Nat.not_lt.mpr hmg)]
     refine tP (vM ?_);refine tP (aA eb ?_);refine tP (cS (a.toList.drop ja2) (sg2.kd.trans hk) (kb _ mb) (fun x hx=>ka x (uW hx)) (by rw[vp,tW]) (fun i hi=>?_) (sa.drop ja2) (by omega) fun k k1 k2 k3=>?_)
     ·rw[List.getElem?_drop,ug]
     dsimp only;have hbulk:Mg a.toList b.toList (ot2++a.extract ja2 (ja2+k)).toList (ja2+k) jb2:=by rw[uo,cp,show ja2+k-ja2=k by omega];refine Mg.bulkA sa k M2 (by rw[tW];omega) fun x hx y hy=>?_;have z:=k2 x hx;rw[tV (by decide)]at z;exact vg z (dY sb eb' y hy)
     have hrest:∀y∈a.toList.drop (ja2+k),kn xb<=kn y:=fun y hy=>by rw[<-List.drop_drop]at hy;have z:=k3 y hy;rw[tV (by decide)]at z;omega
     rcases Nat.lt_or_ge 0 k with hk0|hk0
     all_goals first|rw[tU hk0]|rw[tV (Nat.not_lt.mpr hk0)]
     ·by_cases d1:(ja2+k+1==a.size)=true
      ·rw[tU d1];exact tT ⟨sg2.g _,.inl ⟨_,_,rfl,gz hbulk sa sb h2 (by simpa using d1)⟩⟩
      rw[tV d1];by_cases d2:(ja2+k==a.size)=true
      ·rw[tU d2];exact tT ⟨sg2.g _,.inl ⟨_,_,rfl,ri hbulk sa sb (by simpa using d2)⟩⟩
      rw[tV d2];have d1':¬ja2+k+1=a.size:=(by simpa using d1);have d2':¬ja2+k=a.size:=(by simpa using d2);have o1':ja2+k+1<a.size:=(by omega);have o3':x2+(ja1+jb1)<=ja2+k+jb2:=(by omega);generalize ot2++a.extract ja2 (ja2+k)=ot3 at hbulk ⊢;generalize ja2+k=ja3 at hbulk hrest o1' o3' ⊢;refine tP (aA eb ?_);have M3:Mg a.toList b.toList (ot3.push xb).toList ja3 (jb2+1):=by rw[ur];exact hbulk.pushB sb eb' hrest
      by_cases d3:(jb2+1==b.size)=true
      ·rw[tU d3];exact tT ⟨sg2.g _,.inl ⟨_,_,rfl,fv M3 sa sb (by simpa using d3)⟩⟩
      rw[tV d3];have d3':¬jb2+1=b.size:=(by simpa using d3);obtain⟨xa,ea,ea',ma⟩:=bp (a:=a) (show ja3<a.size by omega);refine tP (aA ea ?_);refine tP (cS (b.toList.drop (jb2+1)) (sg2.kd.trans hk) (ka _ ma) (fun x hx=>kb x (uW hx)) (by rw[vp,tW]) (fun i hi=>?_) (sb.drop (jb2+1)) (by omega) fun k' k1' k2' k3'=>?_)
      ·rw[List.getElem?_drop,ug]
      dsimp only;have hbulk4:Mg a.toList b.toList (ot3.push xb++b.extract (jb2+1) (jb2+1+k')).toList ja3 (jb2+1+k'):=by rw[uo,cp,show jb2+1+k'-(jb2+1)=k' by omega];refine Mg.bulkB sb k' M3 (by rw[tW];omega) fun x hx y hy=>?_;have z:=k2' x hx;rw[tU rfl]at z;exact vg (vG z) (dY sa ea' y hy)
      have hrest4:∀y∈b.toList.drop (jb2+1+k'),kn xa<=kn y:=fun y hy=>by rw[<-List.drop_drop]at hy;have z:=k3' y hy;rw[tU rfl]at z;exact z
      rcases Nat.lt_or_ge 0 k' with hk1|hk1
      all_goals first|rw[tU hk1]|rw[tV (Nat.not_lt.mpr hk1)]
      ·by_cases d4:(jb2+1+k'==b.size)=true
       ·rw[tU d4];exact tT ⟨sg2.g _,.inl ⟨_,_,rfl,fv hbulk4 sa sb (by simpa using d4)⟩⟩
       rw[tV d4];have d4':¬jb2+1+k'=b.size:=(by simpa using d4);have o2':jb2+1+k'<b.size:=(by omega);have o3'':x2+1+(ja1+jb1)<=ja3+(jb2+1+k'):=(by omega);generalize ot3.push xb++b.extract (jb2+1) (jb2+1+k')=ot4 at hbulk4 ⊢;generalize jb2+1+k'=jb4 at hbulk4 hrest4 o2' o3'' ⊢;refine tP (aA ea ?_);have M5:Mg a.toList b.toList (ot4.push xa).toList (ja3+1) jb4:=by rw[ur];exact hbulk4.pushA sa ea' hrest4
       by_cases d5:(ja3+1+1==a.size)=true
       ·rw[tU d5];exact tT ⟨sg2.g _,.inl ⟨_,_,rfl,gz M5 sa sb h2 (by simpa using d5)⟩⟩
       rw[tV d5];have d5':¬ja3+1+1=a.size:=(by simpa using d5);split
       ·exact tT ⟨sg2.g _,.inr ⟨_,_,_,_,_,_,rfl,M5,by omega,o2',by omega⟩⟩
       ·exact tT ⟨sg2.g _,_,_,_,_,_,_,rfl,M5,by omega,o2',by omega⟩
      ·have k0':k'=0:=(by omega);subst k0';rw[Nat.add_zero]at hrest4;have o2':jb2+1<b.size:=(by omega);have o3'':x2+1+(ja1+jb1)<=ja3+(jb2+1):=(by omega);clear hbulk4;have hbulk4:=M3;generalize ot3.push xb=ot4 at hbulk4 ⊢;generalize jb2+1=jb4 at hbulk4 hrest4 o2' o3'' ⊢;refine tP (aA ea ?_);have M5:Mg a.toList b.toList (ot4.push xa).toList (ja3+1) jb4:=by
        rw[ur];exact hbulk4.pushA sa ea' hrest4
       by_cases d5:(ja3+1+1==a.size)=true
       ·rw[tU d5];exact tT ⟨sg2.g _,.inl ⟨_,_,rfl,gz M5 sa sb h2 (by simpa using d5)⟩⟩
       rw[tV d5];have d5':¬ja3+1+1=a.size:=(by simpa using d5);split
       ·exact tT ⟨sg2.g _,.inr ⟨_,_,_,_,_,_,rfl,M5,by omega,o2',by omega⟩⟩
       ·exact tT ⟨sg2.g _,_,_,_,_,_,_,rfl,M5,by omega,o2',by omega⟩
     ·have k0:k=0:=(by omega);subst k0;have hbulk':=M2;have hrest':=hrest;rw[Nat.add_zero]at hrest';have o1':=o1;have o3':=o3;clear hbulk hrest;have hbulk:=hbulk';have hrest:=hrest';clear hbulk' hrest';generalize ot2=ot3 at hbulk ⊢;generalize ja2=ja3 at hbulk hrest o1' o3' ⊢;refine tP (aA eb ?_);have M3:Mg a.toList b.toList (ot3.push xb).toList ja3 (jb2+1):=by
       rw[ur];exact hbulk.pushB sb eb' hrest
      by_cases d3:(jb2+1==b.size)=true
      ·rw[tU d3];exact tT ⟨sg2.g _,.inl ⟨_,_,rfl,fv M3 sa sb (by simpa using d3)⟩⟩
      rw[tV d3];have d3':¬jb2+1=b.size:=(by simpa using d3);obtain⟨xa,ea,ea',ma⟩:=bp (a:=a) (show ja3<a.size by omega);refine tP (aA ea ?_);refine tP (cS (b.toList.drop (jb2+1)) (sg2.kd.trans hk) (ka _ ma) (fun x hx=>kb x (uW hx)) (by rw[vp,tW]) (fun i hi=>?_) (sb.drop (jb2+1)) (by omega) fun k' k1' k2' k3'=>?_)
      ·rw[List.getElem?_drop,ug]
      dsimp only;have hbulk4:Mg a.toList b.toList (ot3.push xb++b.extract (jb2+1) (jb2+1+k')).toList ja3 (jb2+1+k'):=by rw[uo,cp,show jb2+1+k'-(jb2+1)=k' by omega];refine Mg.bulkB sb k' M3 (by rw[tW];omega) fun x hx y hy=>?_;have z:=k2' x hx;rw[tU rfl]at z;exact vg (vG z) (dY sa ea' y hy)
      have hrest4:∀y∈b.toList.drop (jb2+1+k'),kn xa<=kn y:=fun y hy=>by rw[<-List.drop_drop]at hy;have z:=k3' y hy;rw[tU rfl]at z;exact z
      rcases Nat.lt_or_ge 0 k' with hk1|hk1
      all_goals first|rw[tU hk1]|rw[tV (Nat.not_lt.mpr hk1)]
      ·by_cases d4:(jb2+1+k'==b.size)=true
       ·rw[tU d4];exact tT ⟨sg2.g _,.inl ⟨_,_,rfl,fv hbulk4 sa sb (by simpa using d4)⟩⟩
       rw[tV d4];have d4':¬jb2+1+k'=b.size:=(by simpa using d4);have o2':jb2+1+k'<b.size:=(by omega);have o3'':x2+1+(ja1+jb1)<=ja3+(jb2+1+k'):=(by omega);generalize ot3.push xb++b.extract (jb2+1) (jb2+1+k')=ot4 at hbulk4 ⊢;generalize jb2+1+k'=jb4 at hbulk4 hrest4 o2' o3'' ⊢;refine tP (aA ea ?_);have M5:Mg a.toList b.toList (ot4.push xa).toList (ja3+1) jb4:=by rw[ur];exact hbulk4.pushA sa ea' hrest4
       by_cases d5:(ja3+1+1==a.size)=true
       ·rw[tU d5];exact tT ⟨sg2.g _,.inl ⟨_,_,rfl,gz M5 sa sb h2 (by simpa using d5)⟩⟩
       rw[tV d5];have d5':¬ja3+1+1=a.size:=(by simpa using d5);split
       ·exact tT ⟨sg2.g _,.inr ⟨_,_,_,_,_,_,rfl,M5,by omega,o2',by omega⟩⟩
       ·exact tT ⟨sg2.g _,_,_,_,_,_,_,rfl,M5,by omega,o2',by omega⟩
      ·have k0':k'=0:=(by omega);subst k0';rw[Nat.add_zero]at hrest4;have o2':jb2+1<b.size:=(by omega);have o3'':x2+1+(ja1+jb1)<=ja3+(jb2+1):=(by omega);clear hbulk4;have hbulk4:=M3;generalize ot3.push xb=ot4 at hbulk4 ⊢;generalize jb2+1=jb4 at hbulk4 hrest4 o2' o3'' ⊢;refine tP (aA ea ?_);have M5:Mg a.toList b.toList (ot4.push xa).toList (ja3+1) jb4:=by
        rw[ur];exact hbulk4.pushA sa ea' hrest4
       by_cases d5:(ja3+1+1==a.size)=true
       ·rw[tU d5];exact tT ⟨sg2.g _,.inl ⟨_,_,rfl,gz M5 sa sb h2 (by simpa using d5)⟩⟩
       rw[tV d5];have d5':¬ja3+1+1=a.size:=(by simpa using d5);split
       ·exact tT ⟨sg2.g _,.inr ⟨_,_,_,_,_,_,rfl,M5,by omega,o2',by omega⟩⟩
       ·exact tT ⟨sg2.g _,_,_,_,_,_,_,rfl,M5,by omega,o2',by omega⟩
end
noncomputable def jW:Array Keyed->Array Keyed->SM (Array Keyed):=sortPriv% PySem.Builtin.mergeHi
noncomputable def rh(a b:Array Keyed):SM (Array Keyed):=do
 rule "list.sort.merge-hi"
 let tot:=a.size+b.size
 let dn (ot:Array Keyed) (ja jb:Nat):=a.extract 0 ja++b.extract 0 jb++ot.reverse
 let fb (ot:Array Keyed) (ja jb:Nat):=b.extract 0 jb++a.extract 0 ja++ot.reverse
 let mut ja:=a.size-1
 let mut jb:=b.size
 let mut ot:Array Keyed:= #[<-elem' a ja]
 if ja==0 then return dn ot ja jb
 if jb==1 then return fb ot ja jb
 let mut mg:=gallopOf (<-get)
 for _ in[0:tot] do
  let mut ac:=0
  let mut bc:=0
  for _ in[0:tot] do
   let some aw <-lt' (<-elem' b (jb-1)) (<-elem' a (ja-1))|return dn ot ja jb
   if aw then
    ja:=ja-1;ot:=ot.push (<-elem' a ja);ac:=ac+1;bc:=0
    if ja==0 then return dn ot ja jb
    if ac>=mg then break
   else
    jb:=jb-1;ot:=ot.push (<-elem' b jb);bc:=bc+1;ac:=0
    if jb==1 then return fb ot ja jb
    if bc>=mg then break
  rule "list.sort.gallop"
  mg:=mg+1
  for _ in[0:tot] do
   if mg>1 then mg:=mg-1
   (modify fun z=>setG z mg)
   let some kt <-cU false (<-elem' b (jb-1)) a 0 ja (ja-1)|return dn ot ja jb
   let k:=ja-kt
   ac:=k
   if k>0 then
    ot:=ot++(a.extract kt ja).reverse;ja:=kt
    if ja==0 then return dn ot ja jb
   jb:=jb-1;ot:=ot.push (<-elem' b jb)
   if jb==1 then return fb ot ja jb
   let some kt <-cU true (<-elem' a (ja-1)) b 0 jb (jb-1)|return dn ot ja jb
   let k:=jb-kt
   bc:=k
   if k>0 then
    ot:=ot++(b.extract kt jb).reverse;jb:=kt
    if jb==1 then return fb ot ja jb
    if jb==0 then return dn ot ja jb
   ja:=ja-1;ot:=ot.push (<-elem' a ja)
   if ja==0 then return dn ot ja jb
   if ac<7&&bc<7 then break
  mg:=mg+1
  (modify fun z=>setG z mg)
 unsupported "internal:list.sort.merge-bound"
theorem kG(a b:Array Keyed):jW a b=rh a b:=rfl
structure Mh(a b rv:List Keyed)(i j:Nat):Prop where
 pm:rv.Perm (a.drop i++b.drop j)
 so:rv.Pairwise fun x y=>kn x<=kn y
 le:∀y∈a.take i++b.take j,∀x∈rv,kn y<=kn x
theorem So.take{a:List Keyed}(h:So a)(i:Nat):So (a.take i):=List.Pairwise.sublist (List.take_sublist i a) h
theorem Mh.swap{a b rv:List Keyed}{i j:Nat}(h:Mh a b rv i j):Mh b a rv j i:=
 ⟨h.pm.trans List.perm_append_comm,h.so,fun y hy=>h.le y (by rcases ub.mp hy with v|v;exact ux _ v;exact vj _ v)⟩
theorem Mh.bulkA{a b rv:List Keyed}{i j t:Nat}(h:Mh a b rv i j)(sa:So a)(ht:t<=i)(hl:∀x∈(a.take i).drop t,∀y∈b.take j,kn y<=kn x):Mh a b ((a.take i).drop t++rv) t j:=by
 have st:=sa.take i;have sp:a.take i=a.take t++(a.take i).drop t:=by
  conv=>lhs;rw[<-uM t (a.take i)]
  rw[List.take_take,Nat.min_eq_left ht]
 refine⟨?_,?_,fun y hy x hx=>?_⟩
 ·have e:a.drop t=(a.take i).drop t++a.drop i:=by
   conv=>lhs;rw[<-uM i a]
   rw[List.drop_append];by_cases hi:i<=a.length
   ·rw[uf,Nat.min_eq_left hi,show t-i=0 by omega,List.drop_zero]
   ·rw[vl (show a.length<=i by omega),List.drop_nil]
  rw[e,uk];exact h.pm.append_left _
 ·refine uB.mpr ⟨st.drop t,h.so,fun x hx y hy=>h.le x (vj _ (uW hx)) y hy⟩
 ·rcases ub.mp hx with w|w
  ·rcases ub.mp hy with v|v
   ·rw[sp]at st;exact(uB.mp st).2.2 y v x w
   ·exact hl x w y v
  ·rcases ub.mp hy with v|v
   ·exact h.le y (vj _ (by rw[sp];exact vj _ v)) x w
   ·exact h.le y (ux _ v) x w
theorem Mh.bulkB{a b rv:List Keyed}{i j t:Nat}(h:Mh a b rv i j)(sb:So b)(ht:t<=j)(hl:∀x∈(b.take j).drop t,∀y∈a.take i,kn y<=kn x):Mh a b ((b.take j).drop t++rv) i t:=(h.swap.bulkA sb ht hl).swap
theorem jZ{a:List Keyed}{i:Nat}{x:Keyed}(e:a[i]?=some x):(a.take (i+1)).drop i=[x]:=by rw[iH e,List.drop_append_of_le_length (by rw[uf];have:=(t8.mp e).1;omega),vl (by rw[uf];omega),List.nil_append]
theorem Mh.pushA{a b rv:List Keyed}{i j:Nat}{x:Keyed}(h:Mh a b rv (i+1) j)(sa:So a)(e:a[i]?=some x)(hl:∀y∈b.take j,kn y<=kn x):Mh a b (x::rv) i j:=by have:=h.bulkA sa (Nat.le_succ i) (fun z hz y hy=>by rw[jZ e,ua]at hz;rw[hz];exact hl y hy);rw[jZ e]at this;exact this
theorem Mh.pushB{a b rv:List Keyed}{i j:Nat}{x:Keyed}(h:Mh a b rv i (j+1))(sb:So b)(e:b[j]?=some x)(hl:∀y∈a.take i,kn y<=kn x):Mh a b (x::rv) i j:=(h.swap.pushA sb e hl).swap
theorem Mh.fin{a b rv:List Keyed}{i j:Nat}(h:Mh a b rv i j)(sa:So a)(sb:So b)(hc:∀x∈a.take i,∀y∈b.take j,kn x<=kn y):Mgd a b (a.take i++b.take j++rv):=by
 refine⟨?_,?_⟩
 ·have p1:(a.take i++b.take j++rv).Perm ((a.take i++b.take j)++(a.drop i++b.drop j)):=h.pm.append_left _;refine p1.trans ?_;have p2:((a.take i++b.take j)++(a.drop i++b.drop j)).Perm ((a.take i++a.drop i)++(b.take j++b.drop j)):=by
   rw[uk,uk];refine List.Perm.append_left _ ?_;rw[<-uk,<-uk];exact List.perm_append_comm.append_right _
  rw[uM,uM]at p2;exact p2
 ·exact uB.mpr ⟨uB.mpr ⟨sa.take i,sb.take j,hc⟩,h.so,h.le⟩
theorem d9{a:Array Keyed}{j:Nat}:(a.extract 0 j).toList=a.toList.take j:=by rw[cp,List.drop_zero,Nat.sub_zero]
theorem i9{a:Array Keyed}{t j:Nat}:(a.extract t j).toList=(a.toList.take j).drop t:=by rw[cp,List.drop_take]
theorem eK{a b ot:Array Keyed}{jb:Nat}(h:Mh a.toList b.toList ot.toList.reverse 0 jb)(sa:So a.toList)(sb:So b.toList):Mgd a.toList b.toList (a.extract 0 0++b.extract 0 jb++ot.reverse).toList:=by rw[uo,uo,d9,d9,vL];refine h.fin sa sb fun x hx=>?_;rw[List.take_zero]at hx;cases hx
theorem nS{a b ot:Array Keyed}{ja:Nat}(h:Mh a.toList b.toList ot.toList.reverse ja 0)(sa:So a.toList)(sb:So b.toList):Mgd a.toList b.toList (a.extract 0 ja++b.extract 0 0++ot.reverse).toList:=by rw[uo,uo,d9,d9,vL];refine h.fin sa sb fun x _ y hy=>?_;rw[List.take_zero]at hy;cases hy
theorem ig{a b ot:Array Keyed}{ja:Nat}(h:Mh a.toList b.toList ot.toList.reverse ja 1)(sa:So a.toList)(sb:So b.toList)(h1:∀x,b.toList[0]?=some x->∀y∈a.toList,kn x<=kn y):
  Mgd a.toList b.toList (b.extract 0 1++a.extract 0 ja++ot.reverse).toList:=by
 rw[uo,uo,d9,d9,vL];refine(h.swap.fin sb sa fun x hx y hy=>?_).swap;have:b.toList[0]?=some x:=by
  cases hb:b.toList with
  |nil=>rw[hb]at hx;cases hx
  |cons z l=>rw[hb]at hx;have:x=z:=(by simpa using hx);rw[this];rfl
 exact h1 x this y (uI hy)
theorem dX{a:List Keyed}(sa:So a){i:Nat}{x:Keyed}(e:a[i]?=some x):∀y∈a.take (i+1),kn y<=kn x:=fun y hy=>by
 have:=sa.take (i+1);rw[iH e]at this hy;rcases ub.mp hy with z|z
 ·exact(uB.mp this).2.2 y z x (ua.mpr rfl)
 ·rw[ua.mp z];exact vq _
section
variable{prog:Program}{w:World}{A:Around}{E:Value->Shared->Prop}{s:Shared}[gM prog w A E s]
theorem oM{a b:Array Keyed}{st:SortSt}{Q:Array Keyed->SortSt->Prop}(hk:kindOf st=kd0)(ka:∀x∈a.toList,IsK x)(kb:∀x∈b.toList,IsK x)(sa:So a.toList)(sb:So b.toList)(na:1<=a.size)(nb:1<=b.size)
  (h1:∀x,b.toList[0]?=some x->∀y∈a.toList,kn x<=kn y) (h2:∀x∈b.toList,∀y,a.toList[a.size-1]?=some y->kn x<=kn y)
  (h:∀m st',SmG st st'->Mgd a.toList b.toList m.toList->Q m st'):wpS (model prog w) A E s (rh a b) Q st:=by
 unfold rh;refine tP (wpS_lift (vN ⟨rfl,?_⟩));obtain⟨a0,e0,e0',m0⟩:=bp (a:=a) (i:=a.size-1) (by omega);refine tP (aA e0 ?_);have M0:Mh a.toList b.toList (#[a0]:Array Keyed).toList.reverse (a.size-1) b.size:=by
  have z:Mh a.toList b.toList [] a.size b.size:=⟨by rw[vl (by rw[tW];omega),vl (by rw[tW];omega)];exact .nil,List.Pairwise.nil,fun _ _ _ hx=>nomatch hx⟩;have e:a.size=a.size-1+1:=by omega
  rw[e]at z;exact z.pushA sa e0' (fun y hy=>h2 y (uI hy) a0 e0')
 generalize hp:a.size-1=p at M0 e0 e0' ⊢;by_cases c1:(p==0)=true
 ·rw[tU c1];have c1':p=0:=by simpa using c1
  subst c1';exact tT (h _ _ (SmG.refl st) (eK M0 sa sb))
 rw[tV c1];by_cases c2:(b.size==1)=true
 ·rw[tU c2];have c2':b.size=1:=by simpa using c2
  rw[c2']at M0;refine tT (h _ _ (SmG.refl st) ?_);rw[c2'];exact ig M0 sa sb h1
 rw[tV c2];have c1':¬p=0:=by simpa using c1
 have c2':¬b.size=1:=by simpa using c2
 refine tP (wpS_get ?_);refine tP (wpS_mono (uS (I:=fun x c st'=>SmG st st'/\∃ja jb ot mg,c=(none,ja,jb,ot,mg)/\Mh a.toList b.toList ot.toList.reverse ja jb/\1<=ja/\ja<=a.size/\2<=jb/\jb<=b.size/\x+1<=a.size+b.size-(ja+jb)) (Q:=fun c st'=>SmG st st'/\∃r y,c=(some r,y)/\Mgd a.toList b.toList r.toList) ?step ?fin ⟨SmG.refl st,_,_,_,_,rfl,M0,by omega,by omega,by omega,by omega,by omega⟩) ?post)
 case fin=>rintro c st' ⟨_,ja,jb,ot,mg,_,_,l1,l1',l2,l2',l3⟩;omega
 case post=>rintro c st' ⟨sg,r,y,rfl,hr⟩;exact tT (h r st' sg hr)
 case step=>
  rintro x c st1 _ hx ⟨sg,ja,jb,ot,mg,rfl,M,l1,l1',l2,l2',l3⟩;dsimp only;refine tP (wpS_mono (uS (I:=fun x1 c st'=>st'=st1/\∃ja1 jb1 ot1 ac bc,c=(none,ja1,jb1,ot1,ac,bc)/\Mh a.toList b.toList ot1.toList.reverse ja1 jb1/\1<=ja1/\ja1<=a.size/\2<=jb1/\jb1<=b.size/\x1+(a.size+b.size-(ja+jb))<=a.size+b.size-(ja1+jb1)) (Q:=fun c st'=>st'=st1/\((∃r y,c=(some r,y)/\Mgd a.toList b.toList r.toList)\/∃ja1 jb1 ot1 ac bc,c=(none,ja1,jb1,ot1,ac,bc)/\Mh a.toList b.toList ot1.toList.reverse ja1 jb1/\1<=ja1/\ja1<=a.size/\2<=jb1/\jb1<=b.size/\a.size+b.size-(ja+jb)<a.size+b.size-(ja1+jb1))) ?step1 ?fin1 ⟨rfl,ja,jb,ot,0,0,rfl,M,l1,l1',l2,l2',by omega⟩) ?post1)
  case fin1=>rintro c st' ⟨_,ja1,jb1,ot1,ac,bc,_,_,m1,m1',m2,m2',m3⟩;omega
  case step1=>
   rintro x1 c st' _ hx1 ⟨rfl,ja1,jb1,ot1,ac,bc,rfl,M1,m1,m1',m2,m2',m3⟩;obtain⟨p1,rfl⟩:∃p1,ja1=p1+1:=⟨ja1-1,by omega⟩;obtain⟨q1,rfl⟩:∃q1,jb1=q1+1:=⟨jb1-1,by omega⟩;simp only[Nat.add_sub_cancel];obtain⟨xb,eb,eb',mb⟩:=bp (a:=b) (show q1<b.size by omega);obtain⟨xa,ea,ea',ma⟩:=bp (a:=a) (show p1<a.size by omega);refine tP (aA eb (tP (aA ea (tP (eP (sg.kd.trans hk) (kb _ mb) (ka _ ma) ?_)))));dsimp only;by_cases aw:kn xb<kn xa
   ·rw[tS aw,tU rfl];refine tP (aA ea ?_);have M2:Mh a.toList b.toList (ot1.push xa).toList.reverse p1 (q1+1):=by
     rw[ur,uQ];exact M1.pushA sa ea' fun y hy=>vG (Int.lt_of_le_of_lt (dX sb eb' y hy) aw)
    by_cases d1:(p1==0)=true
    ·rw[tU d1];have d1':p1=0:=(by simpa using d1);subst d1';exact tT ⟨rfl,.inl ⟨_,_,rfl,eK M2 sa sb⟩⟩
    rw[tV d1];have d1':¬p1=0:=(by simpa using d1);by_cases d2:ac+1>=mg
    ·rw[tU d2];exact tT ⟨rfl,.inr ⟨_,_,_,_,_,rfl,M2,by omega,by omega,m2,m2',by omega⟩⟩
    ·rw[tV d2];exact tT ⟨rfl,_,_,_,_,_,rfl,M2,by omega,by omega,m2,m2',by omega⟩
   ·rw[tQ aw,tV (by decide)];refine tP (aA eb ?_);have M2:Mh a.toList b.toList (ot1.push xb).toList.reverse (p1+1) q1:=by
     rw[ur,uQ];exact M1.pushB sb eb' fun y hy=>vg (dX sa ea' y hy) (Int.not_lt.mp aw)
    by_cases d1:(q1==1)=true
    ·rw[tU d1];have d1':q1=1:=(by simpa using d1);subst d1';exact tT ⟨rfl,.inl ⟨_,_,rfl,ig M2 sa sb h1⟩⟩
    rw[tV d1];have d1':¬q1=1:=(by simpa using d1);by_cases d2:bc+1>=mg
    ·rw[tU d2];exact tT ⟨rfl,.inr ⟨_,_,_,_,_,rfl,M2,m1,m1',by omega,by omega,by omega⟩⟩
    ·rw[tV d2];exact tT ⟨rfl,_,_,_,_,_,rfl,M2,m1,m1',by omega,by omega,by omega⟩
  case post1=>
   rintro c st' ⟨rfl,⟨r,y,rfl,hr⟩|⟨ja1,jb1,ot1,ac,bc,rfl,M1,m1,m1',m2,m2',m3⟩⟩
   ·exact tT ⟨sg,r,_,rfl,hr⟩
   dsimp only;refine tP (wpS_lift (vN ⟨rfl,?_⟩));refine tP (wpS_mono (uS (I:=fun x2 c st'=>SmG st st'/\∃ja2 jb2 ot2 mg2 ac2 bc2,c=(none,ja2,jb2,ot2,mg2,ac2,bc2)/\Mh a.toList b.toList ot2.toList.reverse ja2 jb2/\1<=ja2/\ja2<=a.size/\2<=jb2/\jb2<=b.size/\x2+(a.size+b.size-(ja1+jb1))<=a.size+b.size-(ja2+jb2)) (Q:=fun c st'=>SmG st st'/\((∃r y,c=(some r,y)/\Mgd a.toList b.toList r.toList)\/∃ja2 jb2 ot2 mg2 ac2 bc2,c=(none,ja2,jb2,ot2,mg2,ac2,bc2)/\Mh a.toList b.toList ot2.toList.reverse ja2 jb2/\1<=ja2/\ja2<=a.size/\2<=jb2/\jb2<=b.size/\a.size+b.size-(ja1+jb1)<=a.size+b.size-(ja2+jb2))) ?step2 ?fin2 ⟨sg,ja1,jb1,ot1,_,_,_,rfl,M1,m1,m1',m2,m2',by omega⟩) ?post2)
   case fin2=>rintro c st' ⟨_,ja1,jb1,ot1,mg2,ac,bc,_,_,m1,m1',m2,m2',m3⟩;omega
   case post2=>
    rintro c st2 ⟨sg2,⟨r,y,rfl,hr⟩|⟨ja2,jb2,ot2,mg2,ac2,bc2,rfl,M2,o1,o1',o2,o2',o3⟩⟩
    ·exact tT ⟨sg2,r,_,rfl,hr⟩
    dsimp only;refine tP (vM ?_);exact tT ⟨sg2.g _,_,_,_,_,rfl,M2,o1,o1',o2,o2',by omega⟩
   case step2=>
    rintro x2 c st2 _ hx2 ⟨sg2,ja2,jb2,ot2,mg2,ac2,bc2,rfl,M2,o1,o1',o2,o2',o3⟩;obtain⟨p2,rfl⟩:∃p2,ja2=p2+1:=⟨ja2-1,by omega⟩;obtain⟨q2,rfl⟩:∃q2,jb2=q2+1:=⟨jb2-1,by omega⟩;simp only[Nat.add_sub_cancel];obtain⟨xb,eb,eb',mb⟩:=bp (a:=b) (show q2<b.size by omega);rcases Nat.lt_or_ge 1 mg2 with hmg|hmg
    all_goals
     first|rw[tU hmg]|rw[tV (Nat.not_lt.mpr hmg)]
     refine tP (vM ?_);refine tP (aA eb ?_);refine tP (cS (a.toList.take (p2+1)) (sg2.kd.trans hk) (kb _ mb) (fun x hx=>ka x (uI hx)) (by rw[uf,tW];omega) (fun i hi=>?_) (sa.take (p2+1)) (by omega) fun ks k1 k2 k3=>?_)
     ·rw[vo hi,ug,Nat.zero_add]
     dsimp only;have hbulk:Mh a.toList b.toList (ot2++(a.extract ks (p2+1)).reverse).toList.reverse ks (q2+1):=by rw[uo,vL,uQ,List.reverse_reverse,i9];refine M2.bulkA sa k1 fun x hx y hy=>?_;have z:=k3 x hx;rw[tV (by decide)]at z;exact vG (Int.lt_of_le_of_lt (dX sb eb' y hy) z)
     have hrest:∀y∈a.toList.take ks,kn y<=kn xb:=fun y hy=>by have hy':y∈(a.toList.take (p2+1)).take ks:=(by rw[List.take_take,Nat.min_eq_left k1];exact hy);have z:=k2 y hy';rw[tV (by decide)]at z;exact z
     rcases Nat.lt_or_ge 0 (p2+1-ks)with hk0|hk0
     all_goals first|rw[tU hk0]|rw[tV (Nat.not_lt.mpr hk0)]
     ·by_cases d1:(ks==0)=true
      ·rw[tU d1];have d1':ks=0:=(by simpa using d1);subst d1';exact tT ⟨sg2.g _,.inl ⟨_,_,rfl,eK hbulk sa sb⟩⟩
      rw[tV d1];have d1':¬ks=0:=(by simpa using d1);obtain⟨p3,rfl⟩:∃p3,ks=p3+1:=⟨ks-1,by omega⟩;simp only[Nat.add_sub_cancel];have o4:p3+1<=a.size:=(by omega);have o5:x2+(a.size+b.size-(ja1+jb1))<=a.size+b.size-(p3+1+(q2+1)):=(by omega);generalize ot2++(a.extract (p3+1) (p2+1)).reverse=ot3 at hbulk ⊢;refine tP (aA eb ?_);have M3:Mh a.toList b.toList (ot3.push xb).toList.reverse (p3+1) q2:=by rw[ur,uQ];exact hbulk.pushB sb eb' hrest
      by_cases d3:(q2==1)=true
      ·rw[tU d3];have d3':q2=1:=(by simpa using d3);subst d3';exact tT ⟨sg2.g _,.inl ⟨_,_,rfl,ig M3 sa sb h1⟩⟩
      rw[tV d3];have d3':¬q2=1:=(by simpa using d3);obtain⟨xa3,ea3,ea3',ma3⟩:=bp (a:=a) (show p3<a.size by omega);refine tP (aA ea3 ?_);refine tP (cS (b.toList.take q2) (sg2.kd.trans hk) (ka _ ma3) (fun x hx=>kb x (uI hx)) (by rw[uf,tW];omega) (fun i hi=>?_) (sb.take q2) (by omega) fun kt k1' k2' k3'=>?_)
      ·rw[vo hi,ug,Nat.zero_add]
      dsimp only;have hbulk4:Mh a.toList b.toList (ot3.push xb++(b.extract kt q2).reverse).toList.reverse (p3+1) kt:=by rw[uo,vL,uQ,List.reverse_reverse,i9];refine M3.bulkB sb k1' fun x hx y hy=>?_;have z:=k3' x hx;rw[tU rfl]at z;exact vg (dX sa ea3' y hy) z
      have hrest4:∀xa,a.toList[p3]?=some xa->∀y∈b.toList.take kt,kn y<=kn xa:=fun xa exa y hy=>by rw[ea3']at exa;cases exa;have hy':y∈(b.toList.take q2).take kt:=(by rw[List.take_take,Nat.min_eq_left k1'];exact hy);have z:=k2' y hy';rw[tU rfl]at z;exact vG z
      rcases Nat.lt_or_ge 0 (q2-kt)with hk1|hk1
      all_goals first|rw[tU hk1]|rw[tV (Nat.not_lt.mpr hk1)]
      ·by_cases d4:(kt==1)=true
       ·rw[tU d4];have d4':kt=1:=(by simpa using d4);subst d4';exact tT ⟨sg2.g _,.inl ⟨_,_,rfl,ig hbulk4 sa sb h1⟩⟩
       rw[tV d4];have d4':¬kt=1:=(by simpa using d4);by_cases d6:(kt==0)=true
       ·rw[tU d6];have d6':kt=0:=(by simpa using d6);subst d6';exact tT ⟨sg2.g _,.inl ⟨_,_,rfl,nS hbulk4 sa sb⟩⟩
       rw[tV d6];have d6':¬kt=0:=(by simpa using d6);have o2':2<=kt:=(by omega);have ob':kt<=b.size:=(by omega);have o3'':x2+1+ja1*0+(a.size+b.size-(ja1+jb1))<=a.size+b.size-(p3+1+kt):=(by omega);generalize ot3.push xb++(b.extract kt q2).reverse=ot4 at hbulk4 ⊢;generalize kt=jb4 at hbulk4 hrest4 o2' ob' o3'' ⊢;obtain⟨xa,ea,ea',ma⟩:=bp (a:=a) (show p3<a.size by omega);refine tP (aA ea ?_);have M5:Mh a.toList b.toList (ot4.push xa).toList.reverse p3 jb4:=by rw[ur,uQ];exact hbulk4.pushA sa ea' (hrest4 xa ea')
       by_cases d5:(p3==0)=true
       ·rw[tU d5];have d5':p3=0:=(by simpa using d5);subst d5';exact tT ⟨sg2.g _,.inl ⟨_,_,rfl,eK M5 sa sb⟩⟩
       rw[tV d5];have d5':¬p3=0:=(by simpa using d5);split
       ·exact tT ⟨sg2.g _,.inr ⟨_,_,_,_,_,_,rfl,M5,by omega,by omega,o2',by omega,by omega⟩⟩
       ·exact tT ⟨sg2.g _,_,_,_,_,_,_,rfl,M5,by omega,by omega,o2',by omega,by omega⟩
      ·have k0':kt=q2:=(by omega);subst k0';have o2':2<=kt:=(by omega);have ob':kt<=b.size:=(by omega);have o3'':x2+1+ja1*0+(a.size+b.size-(ja1+jb1))<=a.size+b.size-(p3+1+kt):=(by omega);clear hbulk4;have hbulk4:=M3;generalize ot3.push xb=ot4 at hbulk4 ⊢;generalize kt=jb4 at hbulk4 hrest4 o2' ob' o3'' ⊢;obtain⟨xa,ea,ea',ma⟩:=bp (a:=a) (show p3<a.size by omega);refine tP (aA ea ?_);have M5:Mh a.toList b.toList (ot4.push xa).toList.reverse p3 jb4:=by
        rw[ur,uQ];exact hbulk4.pushA sa ea' (hrest4 xa ea')
       by_cases d5:(p3==0)=true
       ·rw[tU d5];have d5':p3=0:=(by simpa using d5);subst d5';exact tT ⟨sg2.g _,.inl ⟨_,_,rfl,eK M5 sa sb⟩⟩
       rw[tV d5];have d5':¬p3=0:=(by simpa using d5);split
       ·exact tT ⟨sg2.g _,.inr ⟨_,_,_,_,_,_,rfl,M5,by omega,by omega,o2',by omega,by omega⟩⟩
       ·exact tT ⟨sg2.g _,_,_,_,_,_,_,rfl,M5,by omega,by omega,o2',by omega,by omega⟩
     ·have k0:ks=p2+1:=(by omega);subst k0;have o4:p2+1<=a.size:=(by omega);have o5:x2+(a.size+b.size-(ja1+jb1))<=a.size+b.size-(p2+1+(q2+1)):=o3;clear hbulk;have hbulk:=M2;generalize ot2=ot3 at hbulk ⊢;generalize p2=p3 at hbulk hrest o4 o5 ⊢;refine tP (aA eb ?_);have M3:Mh a.toList b.toList (ot3.push xb).toList.reverse (p3+1) q2:=by
       rw[ur,uQ];exact hbulk.pushB sb eb' hrest
      by_cases d3:(q2==1)=true
      ·rw[tU d3];have d3':q2=1:=(by simpa using d3);subst d3';exact tT ⟨sg2.g _,.inl ⟨_,_,rfl,ig M3 sa sb h1⟩⟩
      rw[tV d3];have d3':¬q2=1:=(by simpa using d3);obtain⟨xa3,ea3,ea3',ma3⟩:=bp (a:=a) (show p3<a.size by omega);refine tP (aA ea3 ?_);refine tP (cS (b.toList.take q2) (sg2.kd.trans hk) (ka _ ma3) (fun x hx=>kb x (uI hx)) (by rw[uf,tW];omega) (fun i hi=>?_) (sb.take q2) (by omega) fun kt k1' k2' k3'=>?_)
      ·rw[vo hi,ug,Nat.zero_add]
      dsimp only;have hbulk4:Mh a.toList b.toList (ot3.push xb++(b.extract kt q2).reverse).toList.reverse (p3+1) kt:=by rw[uo,vL,uQ,List.reverse_reverse,i9];refine M3.bulkB sb k1' fun x hx y hy=>?_;have z:=k3' x hx;rw[tU rfl]at z;exact vg (dX sa ea3' y hy) z
      have hrest4:∀xa,a.toList[p3]?=some xa->∀y∈b.toList.take kt,kn y<=kn xa:=fun xa exa y hy=>by rw[ea3']at exa;cases exa;have hy':y∈(b.toList.take q2).take kt:=(by rw[List.take_take,Nat.min_eq_left k1'];exact hy);have z:=k2' y hy';rw[tU rfl]at z;exact vG z
      rcases Nat.lt_or_ge 0 (q2-kt)with hk1|hk1
      all_goals first|rw[tU hk1]|rw[tV (Nat.not_lt.mpr hk1)]
      ·by_cases d4:(kt==1)=true
       ·rw[tU d4];have d4':kt=1:=(by simpa using d4);subst d4';exact tT ⟨sg2.g _,.inl ⟨_,_,rfl,ig hbulk4 sa sb h1⟩⟩
       rw[tV d4];have d4':¬kt=1:=(by simpa using d4);by_cases d6:(kt==0)=true
       ·rw[tU d6];have d6':kt=0:=(by simpa using d6);subst d6';exact tT ⟨sg2.g _,.inl ⟨_,_,rfl,nS hbulk4 sa sb⟩⟩
       rw[tV d6];have d6':¬kt=0:=(by simpa using d6);have o2':2<=kt:=(by omega);have ob':kt<=b.size:=(by omega);have o3'':x2+1+ja1*0+(a.size+b.size-(ja1+jb1))<=a.size+b.size-(p3+1+kt):=(by omega);generalize ot3.push xb++(b.extract kt q2).reverse=ot4 at hbulk4 ⊢;generalize kt=jb4 at hbulk4 hrest4 o2' ob' o3'' ⊢;obtain⟨xa,ea,ea',ma⟩:=bp (a:=a) (show p3<a.size by omega);refine tP (aA ea ?_);have M5:Mh a.toList b.toList (ot4.push xa).toList.reverse p3 jb4:=by rw[ur,uQ];exact hbulk4.pushA sa ea' (hrest4 xa ea')
       by_cases d5:(p3==0)=true
       ·rw[tU d5];have d5':p3=0:=(by simpa using d5);subst d5';exact tT ⟨sg2.g _,.inl ⟨_,_,rfl,eK M5 sa sb⟩⟩
       rw[tV d5];have d5':¬p3=0:=(by simpa using d5);split
       ·exact tT ⟨sg2.g _,.inr ⟨_,_,_,_,_,_,rfl,M5,by omega,by omega,o2',by omega,by omega⟩⟩
       ·exact tT ⟨sg2.g _,_,_,_,_,_,_,rfl,M5,by omega,by omega,o2',by omega,by omega⟩
      ·have k0':kt=q2:=(by omega);subst k0';have o2':2<=kt:=(by omega);have ob':kt<=b.size:=(by omega);have o3'':x2+1+ja1*0+(a.size+b.size-(ja1+jb1))<=a.size+b.size-(p3+1+kt):=(by omega);clear hbulk4;have hbulk4:=M3;generalize ot3.push xb=ot4 at hbulk4 ⊢;generalize kt=jb4 at hbulk4 hrest4 o2' ob' o3'' ⊢;obtain⟨xa,ea,ea',ma⟩:=bp (a:=a) (show p3<a.size by omega);refine tP (aA ea ?_);have M5:Mh a.toList b.toList (ot4.push xa).toList.reverse p3 jb4:=by
        rw[ur,uQ];exact hbulk4.pushA sa ea' (hrest4 xa ea')
       by_cases d5:(p3==0)=true
       ·rw[tU d5];have d5':p3=0:=(by simpa using d5);subst d5';exact tT ⟨sg2.g _,.inl ⟨_,_,rfl,eK M5 sa sb⟩⟩
       rw[tV d5];have d5':¬p3=0:=(by simpa using d5);split
       ·exact tT ⟨sg2.g _,.inr ⟨_,_,_,_,_,_,rfl,M5,by omega,by omega,o2',by omega,by omega⟩⟩
       ·exact tT ⟨sg2.g _,_,_,_,_,_,_,rfl,M5,by omega,by omega,o2',by omega,by omega⟩
end
structure SA(a₀:Array Keyed)(z:SortSt)(lo:Nat)(st:SortSt):Prop where
 perm:(arrOf st).Perm a₀
 kind:kindOf st=kd0
 failed:failedOf st=none
 pend:pendingOf st=pendingOf z
 keep:∀k,k<lo->(arrOf st)[k]?=(arrOf z)[k]?
theorem SA.size{a₀:Array Keyed}{z:SortSt}{lo:Nat}{st:SortSt}(h:SA a₀ z lo st):(arrOf st).size=a₀.size:=h.perm.size_eq
theorem SA.at{a₀:Array Keyed}{z:SortSt}{lo:Nat}{st:SortSt}(h:SA a₀ z lo st)(h0:fm a₀){i:Nat}(hi:i<a₀.size):∃p,(arrOf st)[i]?=some p/\IsK p/\kn p=K (arrOf st) i:=by
 have hi':i<(arrOf st).size:=by rw[h.size];exact hi
 have hm:(arrOf st)[i]∈a₀.toList:=(vD.mp h.perm).mem_iff.mp (by simp);have e:(arrOf st)[i]?=some (arrOf st)[i]:=getElem?_pos _ i hi';refine⟨_,e,h0 _ hm,?_⟩;unfold K;rw[e]
def bQ(xs:Array Keyed)(lo n:Nat):Prop:=∀i j,i<=j->j<n->K xs (lo+i)<=K xs (lo+j)
def kU(xs:Array Keyed)(lo n:Nat):Prop:=∀i j,i<=j->j<n->K xs (lo+j)<=K xs (lo+i)
theorem SA.mir{a₀:Array Keyed}{z:SortSt}{lo:Nat}{st:SortSt}(h:SA a₀ z lo st){i j d:Nat}(hi:lo<=i)(hj:j<=a₀.size)(hd:2*d<=j-i):SA a₀ z lo (setArr st (mirror (arrOf st) i j d)):=by refine⟨(mirror_perm _ _ _ _).trans h.perm,h.kind,h.failed,h.pend,fun k hk=>?_⟩;show(mirror (arrOf st) i j d)[k]?=_;rw[getElem?_mirror (by rw[h.size];exact hj) d hd,tV (by omega)];exact h.keep k hk
section
variable{prog:Program}{w:World}{A:Around}{E:Value->Shared->Prop}{s:Shared}[gM prog w A E s]{a₀:Array Keyed}{z:SortSt}{lo:Nat}
theorem eQ{st:SortSt}{i j:Nat}{Q:Option Bool->SortSt->Prop}(hB:SA a₀ z lo st)(h0:fm a₀)(hi:i<a₀.size)(hj:j<a₀.size)
  (h:Q (some (decide (K (arrOf st) i<K (arrOf st) j))) st):wpS (model prog w) A E s (ltAt' i j) Q st:=by
 obtain⟨p,e1,k1,n1⟩:=hB.at h0 hi;obtain⟨q,e2,k2,n2⟩:=hB.at h0 hj;rw[ltAt'_eq];refine tP (wpS_get ?_);show wpS _ _ _ _ (do let x <-elem' (arrOf st) i;let y <-elem' (arrOf st) j;lt' x y) Q st;rw[elem'_eq,elem'_eq,e1,e2];refine tP (tT (tP (tT ?_)));refine eP hB.kind k1 k2 ?_;rw[n1,n2];exact h
theorem ko{st:SortSt}{x0 nrem:Nat}{f:Nat->Option (Option Nat)×Nat->SM (ForInStep (Option (Option Nat)×Nat))}{k:Nat->Option Bool->SM (ForInStep (Option (Option Nat)×Nat))}{Q:Option (Option Nat)×Nat->SortSt->Prop}
  (hf:∀x n,f x (none,n)=ltAt' (lo+n) (lo+n-1)>>= k n) (hk:∀n b,k n (some b)=if b=true then pure (ForInStep.done (none,n))else pure (ForInStep.yield (none,n+1)))
  (h0:fm a₀) (hB:SA a₀ z lo st) (hn:lo+nrem<=a₀.size) (h1:1<=x0) (h2:x0<=nrem) (hs:bQ (arrOf st) lo x0)
  (h:∀n,x0<=n->n<=nrem->bQ (arrOf st) lo n->(n=nrem\/K (arrOf st) (lo+n)<K (arrOf st) (lo+n-1))->Q (none,n) st):wpS (model prog w) A E s (forIn [x0:nrem] (none,x0) f) Q st:=by
 refine uS (I:=fun x c st'=>st'=st/\c=(none,x)/\bQ (arrOf st) lo x) ?step ?fin ⟨rfl,rfl,hs⟩
 case fin=>rintro c st' ⟨rfl,rfl,hs'⟩;rw[show max x0 nrem=nrem by omega]at hs' ⊢;exact h nrem h2 (uc _) hs' (.inl rfl)
 case step=>
  rintro x c st' hax hxn ⟨rfl,rfl,hs'⟩;rw[hf];refine tP (eQ hB h0 (by omega) (by omega) ?_);rw[hk];by_cases hless:K (arrOf st') (lo+x)<K (arrOf st') (lo+x-1)
  ·rw[tS hless,tU rfl];exact tT (h x hax (by omega) hs' (.inr hless))
  ·rw[tQ hless,tV (by decide)];refine tT ⟨rfl,rfl,fun i j hij hj=>?_⟩;by_cases hjx:j<x
   ·exact hs' i j hij hjx
   ·have hj':j=x:=(by omega);subst hj';by_cases hi':i=j
    ·subst hi';exact vq _
    ·have z1:=hs' i (j-1) (by omega) (by omega);rw[show lo+(j-1)=lo+j-1 by omega]at z1;exact vg z1 (Int.not_lt.mp hless)
theorem oN{st:SortSt}{nrem:Nat}{Q:Option Nat->SortSt->Prop}(h0:fm a₀)(hB:SA a₀ z lo st)(hn:lo+nrem<=a₀.size)(h1:1<=nrem)
  (h:∀m st',SA a₀ z lo st'->1<=m->m<=nrem->bQ (arrOf st') lo m->Q (some m) st'):wpS (model prog w) A E s (countRun' lo nrem) Q st:=by
 rw[countRun'_eq];have one:bQ (arrOf st) lo 1:=fun i j hij hj=>by
  have e:i=j:=by omega
  subst e;exact vq _
 refine tP (ko (fun _ _=>rfl) (fun _ _=>rfl) h0 hB hn (uc 1) h1 one fun n n1 n2 sn hor=>?_);dsimp only;by_cases c1:(n==nrem)=true
 ·rw[tU c1];exact tT (h n st hB n1 n2 sn)
 rw[tV c1];have c1':¬n=nrem:=by simpa using c1
 have hlt:=hor.resolve_left c1';have n1r:n+1<=nrem:=by omega
 refine'(fun(tail:∀stD:SortSt,SA a₀ z lo stD->kU (arrOf stD) lo (n+1)->wpS (model prog w) A E s _ Q stD)=>?G) ?T
 case G=>
  by_cases hgt:n>1
  ·rw[tU hgt];refine tP (eQ hB h0 (by omega) (by omega) ?_);dsimp only;by_cases hrose:K (arrOf st) lo<K (arrOf st) (lo+n-1)
   ·rw[tS hrose,tU rfl];exact tT (h n st hB n1 n2 sn)
   rw[tQ hrose,tV (by decide)];have hall:∀k,lo<=k->k<lo+n->K (arrOf st) k=K (arrOf st) (lo+n-1):=fun k g1 g2=>by have a1:=sn 0 (k-lo) (by omega) (by omega);have a2:=sn (k-lo) (n-1) (by omega) (by omega);rw[show lo+0=lo by omega,show lo+(k-lo)=k by omega]at a1;rw[show lo+(k-lo)=k by omega,show lo+(n-1)=lo+n-1 by omega]at a2;omega
   refine tP (wpS_reverse ?_);have hD:=hB.mir (i:=lo) (j:=lo+n) (d:=(lo+n-lo) / 2) (uc _) (by omega) (by omega);have sd:kU (arrOf (setArr st (mirror (arrOf st) lo (lo+n) ((lo+n-lo) / 2)))) lo (n+1):=fun i j hij hj=>by
    show K (mirror _ _ _ _) _<=K (mirror _ _ _ _) _;rw[K_mirror_equal (by rw[hB.size];omega) hall,K_mirror_equal (by rw[hB.size];omega) hall];by_cases hjn:j<n
    ·rw[hall (lo+i) (by omega) (by omega),hall (lo+j) (by omega) (by omega)];exact vq _
    ·have hj':j=n:=(by omega);subst hj';by_cases hi':i=j
     ·subst hi';exact vq _
     ·rw[hall (lo+i) (by omega) (by omega)];exact vG hlt
   generalize (setArr st (mirror (arrOf st) lo (lo+n) ((lo+n-lo) / 2)))=stD at hD sd ⊢;exact tail _ hD sd
  ·rw[tV hgt];have e1:n=1:=(by omega);have hD:=hB;have sd:kU (arrOf st) lo (n+1):=fun i j hij hj=>by
    by_cases hi':i=j
    ·subst hi';exact vq _
    ·have hi0:i=0:=(by omega);have hj1:j=1:=(by omega);subst hi0;subst hj1;subst e1;exact vG hlt
   generalize st=stD at hD sd ⊢;exact tail _ hD sd
 case T=>
  intro stD hD sd;refine tP (wpS_lift (vN ⟨rfl,?_⟩));refine tP (wpS_mono (uS (I:=fun x c st'=>∃neq,c=(none,x,neq)/\SA a₀ z lo st'/\kU (arrOf st') lo x/\neq+1<=x/\∀i,x-(neq+1)<=i->i<x->K (arrOf st') (lo+i)=K (arrOf st') (lo+x-1)) (Q:=fun c st'=>∃m neq,c=(none,m,neq)/\n+1<=m/\m<=nrem/\SA a₀ z lo st'/\kU (arrOf st') lo m/\neq+1<=m/\∀i,m-(neq+1)<=i->i<m->K (arrOf st') (lo+i)=K (arrOf st') (lo+m-1)) ?dstep ?dfin ⟨0,rfl,hD,sd,by omega,fun i g1 g2=>by congr 1;omega⟩) ?dpost)
  case dfin=>rintro c st' ⟨neq,rfl,b1,b2,b3,b4⟩;rw[show max (n+1) nrem=nrem by omega]at b2 b3 b4 ⊢;exact⟨nrem,neq,rfl,by omega,uc _,b1,b2,b3,b4⟩
  case dstep=>
   rintro x c st' hax hxn ⟨neq,rfl,b1,b2,b3,b4⟩;dsimp only;refine tP (eQ b1 h0 (by omega) (by omega) ?_);dsimp only;have heq:∀k,lo+x-(neq+1)<=k->k<lo+x->K (arrOf st') k=K (arrOf st') (lo+x-1):=fun k g1 g2=>by have:=b4 (k-lo) (by omega) (by omega);rw[show lo+(k-lo)=k by omega]at this;exact this
   by_cases hless:K (arrOf st') (lo+x)<K (arrOf st') (lo+x-1)
   ·rw[tS hless,tU rfl];have step1:∀xs:Array Keyed,(∀k,K xs k=K (arrOf st') k)->kU xs lo (x+1):=by
     intro xs hk i j hij hj;rw[hk,hk];by_cases hjx:j<x
     ·exact b2 i j hij hjx
     ·have hj':j=x:=(by omega);subst hj';by_cases hi':i=j
      ·subst hi';exact vq _
      ·have z1:=b2 i (j-1) (by omega) (by omega);rw[show lo+(j-1)=lo+j-1 by omega]at z1;exact vg (vG hless) z1
    by_cases hneq:neq>0
    ·rw[tU hneq];refine tP (wpS_reverse (tT ⟨0,rfl,b1.mir (by omega) (by omega) (by omega),step1 _ (K_mirror_equal (by rw[b1.size];omega) heq),by omega,fun i g1 g2=>by congr 1;omega⟩))
    ·rw[tV hneq];exact tT ⟨0,rfl,b1,step1 _ (fun _=>rfl),by omega,fun i g1 g2=>by congr 1;omega⟩
   ·rw[tQ hless,tV (by decide)];refine tP (eQ b1 h0 (by omega) (by omega) ?_);dsimp only;by_cases hlarger:K (arrOf st') (lo+x-1)<K (arrOf st') (lo+x)
    ·rw[tS hlarger,tU rfl];exact tT ⟨x,neq,rfl,hax,by omega,b1,b2,b3,b4⟩
    ·rw[tQ hlarger,tV (by decide)];have heqx:K (arrOf st') (lo+x)=K (arrOf st') (lo+x-1):=(by omega);refine tT ⟨neq+1,rfl,b1,fun i j hij hj=>?_,by omega,fun i g1 g2=>?_⟩
     ·by_cases hjx:j<x
      ·exact b2 i j hij hjx
      ·have hj':j=x:=(by omega);subst hj';by_cases hi':i=j
       ·subst hi';exact vq _
       ·have z1:=b2 i (j-1) (by omega) (by omega);rw[show lo+(j-1)=lo+j-1 by omega]at z1;rw[heqx];exact z1
     ·rw[show lo+(x+1)-1=lo+x by omega];by_cases hix:i=x
      ·subst hix;rfl
      ·rw[heqx];exact b4 i (by omega) (by omega)
  case dpost=>
   rintro c st3 ⟨m,neq,rfl,m1,m2,b1,b2,b3,b4⟩;dsimp only;have heq:∀k,lo+m-(neq+1)<=k->k<lo+m->K (arrOf st3) k=K (arrOf st3) (lo+m-1):=fun k g1 g2=>by have:=b4 (k-lo) (by omega) (by omega);rw[show lo+(k-lo)=k by omega]at this;exact this
   by_cases hneq:neq>0
   ·rw[tU hneq];refine tP (wpS_reverse ?_);have hD4:=b1.mir (i:=lo+m-(neq+1)) (j:=lo+m) (d:=(lo+m-(lo+m-(neq+1))) / 2) (by omega) (by omega) (by omega);have sd4:kU (arrOf (setArr st3 (mirror (arrOf st3) (lo+m-(neq+1)) (lo+m) ((lo+m-(lo+m-(neq+1))) / 2)))) lo m:=fun i j hij hj=>by
     show K (mirror _ _ _ _) _<=K (mirror _ _ _ _) _;rw[K_mirror_equal (by rw[b1.size];omega) heq,K_mirror_equal (by rw[b1.size];omega) heq];exact b2 i j hij hj
    generalize (setArr st3 (mirror (arrOf st3) (lo+m-(neq+1)) (lo+m) ((lo+m-(lo+m-(neq+1))) / 2)))=st4 at hD4 sd4 ⊢;have hD5:=hD4.mir (i:=lo) (j:=lo+m) (d:=(lo+m-lo) / 2) (uc _) (by omega) (by omega);refine tP (wpS_reverse ?_);have up5:bQ (mirror (arrOf st4) lo (lo+m) ((lo+m-lo) / 2)) lo m:=fun i j hij hj=>by rw[K_mirror (by rw[hD4.size];omega),K_mirror (by rw[hD4.size];omega),tU (by omega),tU (by omega)];have z1:=sd4 (m-1-j) (m-1-i) (by omega) (by omega);rw[show lo+(lo+m)-1-(lo+i)=lo+(m-1-i) by omega,show lo+(lo+m)-1-(lo+j)=lo+(m-1-j) by omega];exact z1
    refine tP (ko (fun _ _=>rfl) (fun _ _=>rfl) h0 hD5 hn (by omega) m2 up5 fun n5 q1 q2 q3 _=>?_);exact tT (h n5 _ hD5 (by omega) q2 q3)
   ·rw[tV hneq];have hD4:=b1;have sd4:=b2;generalize st3=st4 at hD4 sd4 ⊢;have hD5:=hD4.mir (i:=lo) (j:=lo+m) (d:=(lo+m-lo) / 2) (uc _) (by omega) (by omega);refine tP (wpS_reverse ?_);have up5:bQ (mirror (arrOf st4) lo (lo+m) ((lo+m-lo) / 2)) lo m:=fun i j hij hj=>by
     rw[K_mirror (by rw[hD4.size];omega),K_mirror (by rw[hD4.size];omega),tU (by omega),tU (by omega)];have z1:=sd4 (m-1-j) (m-1-i) (by omega) (by omega);rw[show lo+(lo+m)-1-(lo+i)=lo+(m-1-i) by omega,show lo+(lo+m)-1-(lo+j)=lo+(m-1-j) by omega];exact z1
    refine tP (ko (fun _ _=>rfl) (fun _ _=>rfl) h0 hD5 hn (by omega) m2 up5 fun n5 q1 q2 q3 _=>?_);exact tT (h n5 _ hD5 (by omega) q2 q3)
theorem SA.bub{st:SortSt}(h:SA a₀ z lo st){src d:Nat}(hs:src<a₀.size)(hd:lo+d<=src):SA a₀ z lo (setArr st (bubble (arrOf st) src d)):=by refine⟨(bubble_perm _ _ _).trans h.perm,h.kind,h.failed,h.pend,fun k hk=>?_⟩;show(bubble (arrOf st) src d)[k]?=_;rw[getElem?_bubble (by rw[h.size];exact hs) d (by omega),tV (by omega),tV (by omega)];exact h.keep k hk
theorem me{st:SortSt}{n ok:Nat}{Q:Bool->SortSt->Prop}(h0:fm a₀)(hn:lo+n<=a₀.size)(hok:ok<=n)(hB:SA a₀ z lo st)(hs:bQ (arrOf st) lo ok)
  (h:∀st',SA a₀ z lo st'->bQ (arrOf st') lo n->Q true st'):wpS (model prog w) A E s (binarySort' lo n ok) Q st:=by
 rw[binarySort'_eq];refine tP (wpS_mono (uS (I:=fun k c st'=>c=(none,())/\SA a₀ z lo st'/\bQ (arrOf st') lo (min k n)) (Q:=fun c st'=>c=(none,())/\SA a₀ z lo st'/\bQ (arrOf st') lo n) ?step ?fin ?init) ?post)
 case post=>rintro c st' ⟨rfl,hB',hs'⟩;exact tT (h st' hB' hs')
 case init=>
  refine⟨rfl,hB,fun i j hij hj=>?_⟩;by_cases h1:ok=0
  ·have e:i=j:=(by omega);subst e;exact vq _
  ·exact hs i j hij (by omega)
 case fin=>rintro c st' ⟨hc,hB',hs'⟩;refine⟨hc,hB',?_⟩;rwa[show min (max (max ok 1) n) n=n by omega]at hs'
 case step=>
  rintro k c st' hak hkn ⟨rfl,hB',hs'⟩;rw[show min k n=k by omega]at hs';refine tP (wpS_mono (uS (I:=fun x c st''=>st''=st'/\∃l r,c=(none,l,r)/\l<=r/\r<=k/\r-l<=k-x/\ (∀i,i<l->K (arrOf st') (lo+i)<=K (arrOf st') (lo+k))/\(∀i,r<=i->i<k->K (arrOf st') (lo+k)<K (arrOf st') (lo+i))) (Q:=fun c st''=>st''=st'/\∃l r,c=(none,l,r)/\l<=k/\ (∀i,i<l->K (arrOf st') (lo+i)<=K (arrOf st') (lo+k))/\(∀i,l<=i->i<k->K (arrOf st') (lo+k)<K (arrOf st') (lo+i))) ?istep ?ifin ?iinit) ?ipost)
  case iinit=>exact⟨rfl,0,k,rfl,by omega,by omega,by omega,fun i hi=>by omega,fun i h1 h2=>by omega⟩
  case ifin=>rintro c st'' ⟨rfl,l,r,rfl,hlr,hrk,hm,hlo,hhi⟩;have e:l=r:=(by omega);subst e;exact⟨rfl,l,l,rfl,hrk,hlo,hhi⟩
  case istep=>
   rintro x c st'' _ hxk ⟨rfl,l,r,rfl,hlr,hrk,hm,hlo,hhi⟩;dsimp only;by_cases hge:l>=r
   ·rw[tU hge];have e:l=r:=(by omega);subst e;exact tT ⟨rfl,l,l,rfl,hrk,hlo,hhi⟩
   ·rw[tV hge];refine tP (eQ hB' h0 (by omega) (by omega) ?_);dsimp only;by_cases hless:K (arrOf st'') (lo+k)<K (arrOf st'') (lo+(l+r) / 2)
    ·rw[tS hless,tU rfl];refine tT ⟨rfl,l,(l+r) / 2,rfl,by omega,by omega,by omega,hlo,fun i h1 h2=>?_⟩;exact Int.lt_of_lt_of_le hless (hs' _ _ h1 h2)
    ·rw[tQ hless,tV (by decide)];refine tT ⟨rfl,(l+r) / 2+1,r,rfl,by omega,by omega,by omega,fun i h1=>?_,hhi⟩;exact vg (hs' i ((l+r) / 2) (by omega) (by omega)) (Int.not_lt.mp hless)
  case ipost=>
   rintro c st'' ⟨rfl,l,r,rfl,hlk,hlo,hhi⟩;dsimp only;rw[moveDown'_eq];refine tP (vM (tT ⟨rfl,hB'.bub (by omega) (by omega),?_⟩));rw[show min (k+1) n=k+1 by omega];have hks:lo+k<(arrOf st'').size:=(by rw[hB'.size];omega);intro i j hij hj;show K (bubble (arrOf st'') (lo+k) (lo+k-(lo+l))) (lo+i)<=K (bubble (arrOf st'') (lo+k) (lo+k-(lo+l))) (lo+j);rw[K_bubble hks (by omega),K_bubble hks (by omega),show lo+k-(lo+k-(lo+l))=lo+l by omega];have e1:lo+i-1=lo+(i-1)\/i=0:=(by omega);have e2:lo+j-1=lo+(j-1)\/j=0:=(by omega);by_cases i1:i=l
   ·rw[tU (by omega)];by_cases j1:j=l
    ·rw[tU (by omega)];exact vq _
    ·rw[tV (by omega),tU (by omega),show lo+j-1=lo+(j-1) by omega];exact vG (hhi _ (by omega) (by omega))
   ·rw[tV (by omega)];by_cases i2:l<i
    ·rw[tU (by omega),tV (by omega),tU (by omega),show lo+i-1=lo+(i-1) by omega,show lo+j-1=lo+(j-1) by omega];exact hs' _ _ (by omega) (by omega)
    ·rw[tV (by omega)];by_cases j1:j=l
     ·rw[tU (by omega)];exact hlo _ (by omega)
     ·rw[tV (by omega)];by_cases j2:l<j
      ·rw[tU (by omega),show lo+j-1=lo+(j-1) by omega];exact hs' _ _ (by omega) (by omega)
      ·rw[tV (by omega)];exact hs' _ _ hij (by omega)
end
noncomputable def jX(i:Nat):SM Bool:=do
 let z <-get
 let (some (sa,na,pw),some (sb,nb,_)):=((pendingOf z)[i]?,(pendingOf z)[i+1]?)|unsupported "internal:list.sort.pending"
 set (setPending z (((pendingOf z).setIfInBounds i (sa,na+nb,pw)).eraseIdxIfInBounds (i+1)))
 let some k <-cU false (<-elem' (arrOf z) sb) (arrOf z) sa na 0|return false
 let (sa,na):=(sa+k,na-k)
 if na==0 then return true
 let some nb <-cU true (<-elem' (arrOf z) (sa+na-1)) (arrOf z) sb nb (nb-1)|return false
 if nb==0 then return true
 let x:=(arrOf z).extract sa sb
 let y:=(arrOf z).extract sb (sb+nb)
 let mm <-if na<=nb then jV x y else jW x y
 modify fun z=>setArr z (mm.toList.zipIdx.foldl (fun a (p,j)=>a.setIfInBounds (sa+j) p) (arrOf z))
 return (failedOf (<-get)).isNone
theorem kH(i:Nat):mergeAt' i=jX i:=rfl
theorem jl{xs:Array Keyed}{i:Nat}{x:Keyed}(e:xs.toList[i]?=some x):K xs i=kn x:=by unfold K kn;rw[<-ug,e]
noncomputable def seg(xs:Array Keyed)(lo n:Nat):List Keyed:=(xs.toList.drop lo).take n
theorem d0{xs:Array Keyed}{lo n:Nat}(h:lo+n<=xs.size):(seg xs lo n).length=n:=by unfold seg;rw[uf,vp,tW];omega
theorem seg_at{xs:Array Keyed}{lo n i:Nat}(hi:i<n):(seg xs lo n)[i]?=xs.toList[lo+i]? :=by unfold seg;rw[vo hi,List.getElem?_drop]
theorem hE{xs:Array Keyed}{lo n:Nat}(h:lo+n<=xs.size)(hs:bQ xs lo n):So (seg xs lo n):=by
 refine uY.mpr fun i j hi hj hij=>?_;rw[d0 h]at hi hj;have e1:xs.toList[lo+i]?=some (seg xs lo n)[i]:=by rw[<-seg_at hi];exact ui (by rw[d0 h];exact hi)
 have e2:xs.toList[lo+j]?=some (seg xs lo n)[j]:=by rw[<-seg_at hj];exact ui (by rw[d0 h];exact hj)
 rw[<-jl e1,<-jl e2];exact hs i j (Nat.le_of_lt hij) hj
theorem hG{xs:Array Keyed}{lo n:Nat}(h:lo+n<=xs.size)(hs:So (seg xs lo n)):bQ xs lo n:=by
 intro i j hij hj;have hi:i<n:=by omega
 have l:=d0 h;have e1:xs.toList[lo+i]?=some ((seg xs lo n)[i]'(by omega)):=by rw[<-seg_at hi];exact ui (by omega)
 have e2:xs.toList[lo+j]?=some ((seg xs lo n)[j]'(by omega)):=by rw[<-seg_at hj];exact ui (by omega)
 rw[jl e1,jl e2];rcases Nat.lt_or_eq_of_le hij with z|z
 ·exact uY.mp hs i j (by omega) (by omega) z
 ·subst z;exact vq _
noncomputable def layA(arr:Array Keyed)(off:Nat)(m:List Keyed):Array Keyed:=m.zipIdx.foldl (fun a (x:Keyed×Nat)=>a.setIfInBounds (off+x.2) x.1) arr
theorem iu(off:Nat):∀(m:List (Keyed×Nat))(arr:Array Keyed),(m.foldl (fun a (x:Keyed×Nat)=>a.setIfInBounds (off+x.2) x.1) arr).size=arr.size
 | [],arr=>rfl
 |x::m,arr=>by rw[List.foldl_cons,iu off m,Array.size_setIfInBounds]
theorem j6(off:Nat):∀(m:List Keyed)(t:Nat)(arr:Array Keyed),off+t+m.length<=arr.size->∀k:Nat,((m.zipIdx t).foldl (fun a (x:Keyed×Nat)=>a.setIfInBounds (off+x.2) x.1) arr)[k]?=if off+t<=k/\k<off+t+m.length then m[k-(off+t)]? else arr[k]?
 | [],t,arr,_,k=>by rw[List.zipIdx_nil,List.foldl_nil,tV (by simp)]
 |x::m,t,arr,hl,k=>by
  rw[List.length_cons]at hl;rw[List.zipIdx_cons,List.foldl_cons,j6 off m (t+1) _ (by rw[Array.size_setIfInBounds];omega) k,List.length_cons];by_cases h1:off+(t+1)<=k/\k<off+(t+1)+m.length
  ·rw[tU h1,tU (by omega),show k-(off+t)=(k-(off+(t+1)))+1 by omega,List.getElem?_cons_succ]
  ·rw[tV h1];by_cases h2:k=off+t
   ·subst h2;rw[tU (by omega),Nat.sub_self,Array.getElem?_setIfInBounds_self_of_lt (by omega)];rfl
   ·rw[tV (by omega),Array.getElem?_setIfInBounds_ne (by omega)]
theorem jY{arr:Array Keyed}{off:Nat}{m:List Keyed}(h:off+m.length<=arr.size)(k:Nat):(layA arr off m)[k]?=if off<=k/\k<off+m.length then m[k-off]? else arr[k]? :=by have:=j6 off m 0 arr (by omega) k;unfold layA;simpa using this
theorem ij{arr:Array Keyed}{off:Nat}{m:List Keyed}(h:off+m.length<=arr.size):(layA arr off m).toList=arr.toList.take off++(m++arr.toList.drop (off+m.length)):=by
 refine List.ext_getElem? fun k=>?_;rw[ug,jY h];have lt:(arr.toList.take off).length=off:=by rw[uf,tW];omega
 by_cases h1:k<off
 ·rw[tV (by omega),vH (by omega),vo h1,ug]
 ·rw[vC (by omega),lt];by_cases h2:k<off+m.length
  ·rw[tU (by omega),vH (by omega)]
  ·rw[tV (by omega),vC (by omega),List.getElem?_drop,show off+m.length+(k-off-m.length)=k by omega,ug]
theorem pX{a₀:Array Keyed}{xs:Array Keyed}(h0:fm a₀)(pm:xs.Perm a₀):∀x∈xs.toList,IsK x:=fun x hx=>h0 x ((vD.mp pm).mem_iff.mp hx)
section
variable{prog:Program}{w:World}{A:Around}{E:Value->Shared->Prop}{s:Shared}[gM prog w A E s]{a₀:Array Keyed}
theorem oJ{M:Model}{σ:Type}{x st:σ}{Q:PUnit->σ->Prop}(h:Q ⟨⟩ x):wpS M A E s (set x:StateT σ Sem PUnit) Q st:=by unfold wpS;rw[StateT.run_set];exact tO ⟨rfl,h⟩
theorem lE(xs:Array Keyed)(lo n m:Nat):seg xs lo (n+m)=seg xs lo n++seg xs (lo+n) m:=by unfold seg;rw[List.take_add,List.drop_drop]
theorem gf(xs:Array Keyed){lo n k:Nat}:(seg xs lo n).drop k=seg xs (lo+k) (n-k):=by unfold seg;rw[List.drop_take,List.drop_drop]
theorem gc(xs:Array Keyed){lo n k:Nat}(h:k<=n):(seg xs lo n).take k=seg xs lo k:=by unfold seg;rw[List.take_take,Nat.min_eq_left h]
theorem fQ{xs:Array Keyed}{lo n:Nat}{x:Keyed}(h:x∈seg xs lo n):x∈xs.toList:=uW (uI h)
theorem nY(L:List Keyed)(off len:Nat):L=L.take off++((L.drop off).take len++L.drop (off+len)):=by conv=>lhs;rw[<-uM off L,<-uM len (L.drop off),List.drop_drop]
theorem jt{st:SortSt}{i sa na pa sb nb pb:Nat}{Q:Bool->SortSt->Prop}(h0:fm a₀)(pm:(arrOf st).Perm a₀)(kd:kindOf st=kd0)(fl:failedOf st=none)
  (e1:(pendingOf st)[i]?=some (sa,na,pa)) (e2:(pendingOf st)[i+1]?=some (sb,nb,pb)) (hsb:sb=sa+na) (na1:1<=na) (nb1:1<=nb) (hz:sb+nb<=a₀.size) (ss:bQ (arrOf st) sa na) (sq:bQ (arrOf st) sb nb)
  (h:∀st',(arrOf st').Perm a₀->kindOf st'=kd0->failedOf st'=none->pendingOf st'=((pendingOf st).setIfInBounds i (sa,na+nb,pa)).eraseIdxIfInBounds (i+1)->bQ (arrOf st') sa (na+nb)-> (∀k,k<sa\/sa+na+nb<=k->K (arrOf st') k=K (arrOf st) k)->Q true st'):wpS (model prog w) A E s (mergeAt' i) Q st:=by
 subst hsb;rw[kH];unfold jX;refine tP (wpS_get ?_);dsimp only;rw[e1,e2];dsimp only;have sz:(arrOf st).size=a₀.size:=pm.size_eq;have ik:=pX h0 pm;generalize hX:arrOf st=X at pm sz ik ss sq ⊢;have soA:=hE (show sa+na<=X.size by omega) ss;have soB:=hE (show sa+na+nb<=X.size by omega) sq;have lA:(seg X sa na).length=na:=d0 (by omega);have lB:(seg X (sa+na) nb).length=nb:=d0 (by omega);obtain⟨xb,eb,eb',mb⟩:=bp (a:=X) (i:=sa+na) (by omega);obtain⟨xa,ea,ea',ma⟩:=bp (a:=X) (i:=sa+na-1) (by omega);have hb0:∀y∈seg X (sa+na) nb,kn xb<=kn y:=fun y hy=>dY soB (i:=0) (by rw[seg_at (by omega)];exact eb') y (by rw[List.drop_zero];exact hy);have haL:∀y∈seg X sa na,kn y<=kn xa:=fun y hy=>dX soA (i:=na-1) (by rw[seg_at (by omega),show sa+(na-1)=sa+na-1 by omega];exact ea') y (by rw[List.take_of_length_le (by omega)];exact hy);refine tP (oJ ?_);refine tP (aA eb ?_);refine tP (cS (seg X sa na) kd (ik _ mb) (fun x hx=>ik x (fQ hx)) lA (fun i hi=>by rw[seg_at hi,ug]) soA (by omega) fun k k1 k2 k3=>?_);dsimp only;have whole:(∀x∈seg X sa na,∀y∈seg X (sa+na) nb,kn x<=kn y)->bQ X sa (na+nb):=fun hc=>hG (by omega) (by rw[lE];exact uB.mpr ⟨soA,soB,hc⟩);by_cases c1:(na-k==0)=true
 ·rw[tU c1];have c1':na-k=0:=by simpa using c1
  refine tT (h _ (by rw[<-hX]at pm;exact pm) kd fl rfl ?_ fun _ _=>rfl);show bQ (arrOf st) sa (na+nb);rw[hX];refine whole fun x hx y hy=>?_;have z:=k2 x (by rw[List.take_of_length_le (by omega)];exact hx);rw[tV (by decide)]at z;exact vg z (hb0 y hy)
 rw[tV c1];have c1':¬na-k=0:=by simpa using c1
 rw[show sa+k+(na-k)-1=sa+na-1 by omega];refine tP (aA ea ?_);refine tP (cS (seg X (sa+na) nb) kd (ik _ ma) (fun x hx=>ik x (fQ hx)) lB (fun i hi=>by rw[seg_at hi,ug]) soB (by omega) fun t t1 t2 t3=>?_);dsimp only;by_cases c2:(t==0)=true
 ·rw[tU c2];have c2':t=0:=by simpa using c2
  refine tT (h _ (by rw[<-hX]at pm;exact pm) kd fl rfl ?_ fun _ _=>rfl);show bQ (arrOf st) sa (na+nb);rw[hX];refine whole fun x hx y hy=>?_;have z:=t3 y (by rw[c2',List.drop_zero];exact hy);rw[tU rfl]at z;exact vg (haL x hx) z
 rw[tV c2];have c2':¬t=0:=by simpa using c2
 have eA:(X.extract (sa+k) (sa+na)).toList=(seg X sa na).drop k:=by rw[cp,gf,show sa+na-(sa+k)=na-k by omega];rfl
 have eB:(X.extract (sa+na) (sa+na+t)).toList=(seg X (sa+na) nb).take t:=by rw[cp,gc _ t1,show sa+na+t-(sa+na)=t by omega];rfl
 have zA:(X.extract (sa+k) (sa+na)).size=na-k:=by rw[<-tW,eA,vp,lA]
 have zB:(X.extract (sa+na) (sa+na+t)).size=t:=by rw[<-tW,eB,uf,lB];omega
 have g1:∀x∈(X.extract (sa+k) (sa+na)).toList,IsK x:=fun x hx=>by rw[eA]at hx;exact ik x (fQ (uW hx))
 have g2:∀x∈(X.extract (sa+na) (sa+na+t)).toList,IsK x:=fun x hx=>by rw[eB]at hx;exact ik x (fQ (uI hx))
 have g3:So (X.extract (sa+k) (sa+na)).toList:=by rw[eA];exact soA.drop k
 have g4:So (X.extract (sa+na) (sa+na+t)).toList:=by rw[eB];exact soB.take t
 have g5:∀x,(X.extract (sa+na) (sa+na+t)).toList[0]?=some x->∀y∈(X.extract (sa+k) (sa+na)).toList,kn x<=kn y:=fun x hx y hy=>by rw[eB,gc _ t1,seg_at (by omega),Nat.add_zero,eb']at hx;cases hx;rw[eA]at hy;have z:=k3 y hy;rw[tV (by decide)]at z;omega
 have g6:∀x∈(X.extract (sa+na) (sa+na+t)).toList,∀y,(X.extract (sa+k) (sa+na)).toList[(X.extract (sa+k) (sa+na)).size-1]?=some y->kn x<=kn y:=fun x hx y hy=>by rw[zA,eA,gf,seg_at (by omega),show sa+k+(na-k-1)=sa+na-1 by omega,ea']at hy;cases hy;rw[eB]at hx;have z:=t2 x hx;rw[tU rfl]at z;omega
 have fin:∀(m:Array Keyed)(st2:SortSt),SmG (setPending st (((pendingOf st).setIfInBounds i (sa,na+nb,pa)).eraseIdxIfInBounds (i+1))) st2->Mgd (X.extract (sa+k) (sa+na)).toList (X.extract (sa+na) (sa+na+t)).toList m.toList->Q true (setArr st2 (layA (arrOf st2) (sa+k) m.toList)):=by
  intro m st2 sg ⟨mp,ms⟩;rw[eA,eB]at mp;have ml:m.toList.length=(na-k)+t:=by rw[mp.length_eq,uA,vp,uf,lA,lB];omega
  have eX:arrOf st2=X:=sg.ar.trans hX;have hoff:sa+k+m.toList.length<=X.size:=by omega
  have sS:seg X (sa+k) ((na-k)+t)=(seg X sa na).drop k++(seg X (sa+na) nb).take t:=by rw[lE,gf,gc _ t1,show sa+k+(na-k)=sa+na by omega]
  rw[eX];refine h _ ?_ (sg.kd.trans kd) (sg.fl.trans fl) sg.pd ?_ fun j hj=>?_
  ·show(layA X (sa+k) m.toList).Perm a₀;refine Array.Perm.trans (vD.mpr ?_) pm;rw[ij hoff,ml]
   conv=>rhs;rw[nY X.toList (sa+k) ((na-k)+t)]
   refine List.Perm.append_left _ (List.Perm.append_right _ ?_);have:(X.toList.drop (sa+k)).take ((na-k)+t)=(seg X sa na).drop k++(seg X (sa+na) nb).take t:=sS;rw[this];exact mp
  ·show bQ (layA X (sa+k) m.toList) sa (na+nb);have lz:(layA X (sa+k) m.toList).size=X.size:=iu _ _ _;refine hG (by omega) ?_;have es:seg (layA X (sa+k) m.toList) sa (na+nb)=(seg X sa na).take k++(m.toList++(seg X (sa+na) nb).drop t):=by
    unfold seg;rw[ij hoff,ml,List.drop_append_of_le_length (by rw[uf,tW];omega),<-uk];have q1:(X.toList.take (sa+k)).drop sa=((X.toList.drop sa).take na).take k:=by rw[List.drop_take,List.take_take,Nat.min_eq_left k1,show sa+k-sa=k by omega]
    have q2:(((X.toList.drop sa).take na).take k++m.toList).length=na+t:=by rw[uA,ml,uf];have:((X.toList.drop sa).take na).length=na:=lA;omega
    rw[q1,List.take_append,q2,List.take_of_length_le (by omega),uk];congr 2;rw[List.drop_take,List.drop_drop,show na+nb-(na+t)=nb-t by omega,show sa+k+((na-k)+t)=sa+na+t by omega]
   rw[es];refine uB.mpr ⟨soA.take k,uB.mpr ⟨ms,soB.drop t,fun x hx y hy=>?_⟩,fun x hx y hy=>?_⟩
   ·rcases ub.mp (mp.mem_iff.mp hx)with v|v
    ·have z:=t3 y hy;rw[tU rfl]at z;exact vg (haL x (uW v)) z
    ·have sB':=soB;rw[<-uM t (seg X (sa+na) nb)]at sB';exact(uB.mp sB').2.2 x v y hy
   ·have z:=k2 x hx;rw[tV (by decide)]at z;have za:∀y∈(seg X sa na).drop k,kn x<=kn y:=fun y hy=>by
     have sA':=soA;rw[<-uM k (seg X sa na)]at sA';exact(uB.mp sA').2.2 x hx y hy
    rcases ub.mp hy with v|v
    ·rcases ub.mp (mp.mem_iff.mp v)with u|u
     ·exact za y u
     ·exact vg z (hb0 y (uI u))
    ·exact vg z (hb0 y (uW v))
  ·refine K_congr ?_;show(layA X (sa+k) m.toList)[j]?=(arrOf st)[j]?;rw[hX,jY hoff,tV (by omega)]
 by_cases c3:na-k<=t
 ·rw[tU c3,kF];refine tP (oK kd g1 g2 g3 g4 (by omega) (by omega) g5 g6 fun m st2 sg mg=>?_);refine tP (vM (tP (wpS_get (tT ?_))));have e:(failedOf st2).isNone=true:=by rw[sg.fl,show failedOf (setPending st _)=failedOf st from rfl,fl];rfl
  show Q (failedOf st2).isNone _;rw[e];exact fin m st2 sg mg
 ·rw[tV c3,kG];refine tP (oM kd g1 g2 g3 g4 (by omega) (by omega) g5 g6 fun m st2 sg mg=>?_);refine tP (vM (tP (wpS_get (tT ?_))));have e:(failedOf st2).isNone=true:=by rw[sg.fl,show failedOf (setPending st _)=failedOf st from rfl,fl];rfl
  show Q (failedOf st2).isNone _;rw[e];exact fin m st2 sg mg
end
theorem rn{b:Prop}[Decidable b]{u v m:Nat}(h1:u+1<m)(h2:v+1<m):(if b then u else v)+1<m:=by
 split
 ·exact h1
 ·exact h2
noncomputable def Runs(xs:Array Keyed):Nat->List (Nat×Nat×Nat)->Nat->Prop
 |b,[],e=>b=e
 |b,(t,n,_)::p,e=>t=b/\1<=n/\bQ xs b n/\Runs xs (b+n) p e
theorem Runs.app{xs:Array Keyed}{p q:List (Nat×Nat×Nat)}{e:Nat}:∀{b:Nat},Runs xs b (p++q) e<->∃m,Runs xs b p m/\Runs xs m q e:=by
 induction p with
 |nil=>exact fun {b}=>⟨fun h=>⟨b,rfl,h⟩,fun⟨m,h1,h2⟩=>by cases h1;exact h2⟩
 |cons x p ih=>obtain⟨t,n,w⟩:=x;intro b;show(t=b/\1<=n/\bQ xs b n/\Runs xs (b+n) (p++q) e)<->_;rw[ih];exact⟨fun⟨h1,h2,h3,m,h4,h5⟩=>⟨m,⟨h1,h2,h3,h4⟩,h5⟩,fun⟨m,⟨h1,h2,h3,h4⟩,h5⟩=>⟨h1,h2,h3,m,h4,h5⟩⟩
theorem Runs.le{xs:Array Keyed}{e:Nat}:∀{p:List (Nat×Nat×Nat)}{b:Nat},Runs xs b p e->b+p.length<=e
 | [],b,h=>by cases h;exact uc _
 |(t,n,w)::p,b,h=>by obtain⟨_,h2,_,h4⟩:=h;have:=h4.le;rw[List.length_cons];omega
theorem bQ.of{xs ys:Array Keyed}{lo n:Nat}(h:bQ xs lo n)(k:∀i,lo<=i->i<lo+n->K ys i=K xs i):bQ ys lo n:=fun i j hij hj=>by rw[k (lo+i) (by omega) (by omega),k (lo+j) (by omega) (by omega)];exact h i j hij hj
theorem Runs.of{xs ys:Array Keyed}{e:Nat}:∀{p:List (Nat×Nat×Nat)}{b:Nat},Runs xs b p e->(∀i,b<=i->i<e->K ys i=K xs i)->Runs ys b p e
 | [],b,h,_=>h
 |(t,n,w)::p,b,h,k=>by obtain⟨h1,h2,h3,h4⟩:=h;have:=h4.le;exact⟨h1,h2,h3.of fun i g1 g2=>k i g1 (by omega),h4.of fun i g1 g2=>k i (by omega) g2⟩
theorem Runs.mod{xs:Array Keyed}{e:Nat}{f:Nat×Nat×Nat->Nat×Nat×Nat}(hf:∀x,(f x).1=x.1/\(f x).2.1=x.2.1):∀{p:List (Nat×Nat×Nat)}{b i:Nat},Runs xs b p e->Runs xs b (p.modify i f) e
 | [],b,i,h=>by cases i<;>exact h
 |(t,n,w)::p,b,0,h=>by
  obtain⟨h1,h2,h3,h4⟩:=h;obtain⟨f1,f2⟩:=hf (t,n,w);rw[List.modify_zero_cons];cases hx:f (t,n,w)with
  |mk t' x=>obtain⟨n',w'⟩:=x;rw[hx]at f1 f2;have f1':t'=t:=f1;have f2':n'=n:=f2;subst f1' f2';exact⟨h1,h2,h3,h4⟩
 |(t,n,w)::p,b,i+1,h=>by obtain⟨h1,h2,h3,h4⟩:=h;rw[List.modify_succ_cons];exact⟨h1,h2,h3,h4.mod hf⟩
theorem qf{p:List (Nat×Nat×Nat)}{i:Nat}{x y:Nat×Nat×Nat}(e1:p[i]?=some x)(e2:p[i+1]?=some y):p=p.take i++x::y::p.drop (i+2):=by obtain⟨h1,e1⟩:=t8.mp e1;obtain⟨h2,e2⟩:=t8.mp e2;rw[<-e1,<-e2,List.getElem_cons_drop,List.getElem_cons_drop,uM]
theorem pe{p:List (Nat×Nat×Nat)}{i:Nat}{x y v:Nat×Nat×Nat}(e1:p[i]?=some x)(e2:p[i+1]?=some y):(p.set i v).eraseIdx (i+1)=p.take i++v::p.drop (i+2):=by
 have h1:=(t8.mp e1).1;have h2:=(t8.mp e2).1;rw[List.eraseIdx_eq_take_drop_succ,List.take_set,List.drop_set_of_lt (by omega)];have:(p.take (i+1)).set i v=p.take i++[v]:=by rw[uq,e1];rw[List.set_append_right _ _ (by rw[uf];omega),uf,Nat.min_eq_left (by omega),Nat.sub_self];rfl
 rw[this,uk];rfl
theorem two_list{p:Array (Nat×Nat×Nat)}{i:Nat}{x y v:Nat×Nat×Nat}(e1:p[i]?=some x)(e2:p[i+1]?=some y):((p.setIfInBounds i v).eraseIdxIfInBounds (i+1)).toList=p.toList.take i++v::p.toList.drop (i+2):=by rw[<-pe (p:=p.toList) (by rw[ug];exact e1) (by rw[ug];exact e2)];simp
section
variable{prog:Program}{w:World}{A:Around}{E:Value->Shared->Prop}{s:Shared}[gM prog w A E s]{a₀:Array Keyed}
structure SR(a₀:Array Keyed)(e:Nat)(st:SortSt):Prop where
 perm:(arrOf st).Perm a₀
 kind:kindOf st=kd0
 failed:failedOf st=none
 runs:Runs (arrOf st) 0 (pendingOf st).toList e
theorem iE{st:SortSt}{i e:Nat}{Q:Bool->SortSt->Prop}(h0:fm a₀)(R:SR a₀ e st)(he:e<=a₀.size)(hi:i+1<(pendingOf st).size)
  (h:∀st',SR a₀ e st'->(pendingOf st').size+1=(pendingOf st).size->(∀k,e<=k->K (arrOf st') k=K (arrOf st) k)->Q true st'):wpS (model prog w) A E s (mergeAt' i) Q st:=by
 obtain⟨⟨sa,na,pa⟩,e1⟩:∃x,(pendingOf st)[i]?=some x:=⟨_,vJ (by omega)⟩;obtain⟨⟨sb,nb,pb⟩,e2⟩:∃x,(pendingOf st)[i+1]?=some x:=⟨_,vJ hi⟩;have cut:=qf (p:=(pendingOf st).toList) (by rw[ug];exact e1) (by rw[ug];exact e2);have rr:=R.runs;rw[cut]at rr;obtain⟨m,r1,t1,n1,s1,t2,n2,s2,r2⟩:=Runs.app.mp rr;subst t1;have le:=r2.le;refine jt h0 R.perm R.kind R.failed e1 e2 t2 n1 n2 (by omega) s1 (by rw[t2];exact s2) fun st' q1 q2 q3 q4 q5 q6=>h st' ⟨q1,q2,q3,?_⟩ ?_ fun k hk=>q6 k (by omega)
 ·rw[q4,two_list e1 e2];refine Runs.app.mpr ⟨_,r1.of fun i g1 g2=>q6 i (.inl g2),rfl,by omega,q5,?_⟩;rw[show sa+(na+nb)=sa+na+nb by omega];exact r2.of fun i g1 g2=>q6 i (.inr g1)
 ·have:=congrArg List.length (two_list (v:=(sa,na+nb,pa)) e1 e2);rw[<-q4,tW,uA,List.length_cons,uf,vp,tW]at this;omega
theorem fF{st:SortSt}{Q:Unit->SortSt->Prop}(h0:fm a₀)(pm:(arrOf st).Perm a₀)(kd:kindOf st=kd0)(fl:failedOf st=none)(pd:pendingOf st= #[])(h2:1<=a₀.size)
  (h:∀st',(arrOf st').Perm a₀->failedOf st'=none->SortedTo (arrOf st') a₀.size->Q () st'):wpS (model prog w) A E s sortRuns' Q st:=by
 rw[sortRuns'_eq];refine tP (wpS_get ?_);dsimp only;have sz:(arrOf st).size=a₀.size:=pm.size_eq;rw[sz];refine tP (wpS_mono (uS (I:=fun x c st'=>∃lo,c=(none,lo)/\SR a₀ lo st'/\lo<=a₀.size/\x<=lo) (Q:=fun c st'=>c=(none,a₀.size)/\SR a₀ a₀.size st') ?step ?fin ⟨0,rfl,⟨pm,kd,fl,by rw[pd];rfl⟩,uJ _,uc _⟩) ?post)
 case fin=>
  rintro c st' ⟨lo,rfl,R,l1,l2⟩;have:lo=a₀.size:=by omega
  subst this;exact⟨rfl,R⟩
 case step=>
  rintro x c st1 _ hx ⟨lo,rfl,R,l1,l2⟩;dsimp only;by_cases c1:lo>=a₀.size
  ·rw[tU c1];have:lo=a₀.size:=(by omega);subst this;exact tT ⟨rfl,R⟩
  rw[tV c1];have B1:SA a₀ st1 lo st1:=⟨R.perm,R.kind,R.failed,rfl,fun _ _=>rfl⟩;refine tP (oN h0 B1 (by omega) (by omega) fun m st2 B2 m1 m2 sn2=>?_);dsimp only;by_cases c2:m<minRun' a₀.size a₀.size 0
  ·rw[tU c2];refine tP (wpS_lift (vN ⟨rfl,?_⟩));generalize hN:min (a₀.size-lo) (minRun' a₀.size a₀.size 0)=N;have n1:1<=N:=(by omega);have n2:lo+N<=a₀.size:=(by omega);refine tP (me h0 n2 (by omega) B2 sn2 fun st3 B3 sn3=>?_)
   try dsimp only
   rw[tV (by decide)]
   have R3:SR a₀ lo st3:=⟨B3.perm,B3.kind,B3.failed,by
    rw[B3.pend]
    exact R.runs.of fun i _ g2=>K_congr (B3.keep i g2)⟩
   refine tP (wpS_get ?_);cases hb:(pendingOf st3).back? with
   |none=>dsimp only;have R5:=R3;have sn5:=sn3;generalize st3=st5 at R5 sn5 ⊢;refine tP (vM (tT ⟨lo+N,rfl,⟨R5.perm,R5.kind,R5.failed,?_⟩,by omega,by omega⟩));show Runs (arrOf st5) 0 ((pendingOf st5).push (lo,N,0)).toList (lo+N);rw[ur];exact Runs.app.mpr ⟨lo,R5.runs,rfl,n1,sn5,rfl⟩
   |some y=>
    obtain⟨s1,n1',w1⟩:=y;dsimp only;generalize power' a₀.size (2*s1+n1') (2*s1+n1'+n1'+N) a₀.size=pw;refine tP (wpS_mono (uS (I:=fun x c st'=>c=(none,())/\SR a₀ lo st'/\bQ (arrOf st') lo N) (Q:=fun c st'=>c=(none,())/\SR a₀ lo st'/\bQ (arrOf st') lo N) ?istep (fun c st' hh=>hh) ⟨rfl,R3,sn3⟩) ?ipost)
    case istep=>
     rintro x' c st' _ _ ⟨rfl,R4,sn4⟩;refine tP (wpS_get ?_);by_cases g1:(pendingOf st').size>1
     ·obtain⟨⟨q1,q2,q3⟩,e⟩:∃y,(pendingOf st')[(pendingOf st').size-2]?=some y:=⟨_,vJ (by omega)⟩;rw[tU g1,e];dsimp only;by_cases g2:q3<=pw
      ·rw[tU g2];exact tT ⟨rfl,R4,sn4⟩
      ·rw[tV g2];refine tP (iE h0 R4 (by omega) (by omega) fun st6 R6 _ k6=>?_)
       try dsimp only
       rw[tV (by decide)];exact tT ⟨rfl,R6,sn4.of fun i g1 g2=>k6 i g1⟩
     ·rw[tV g1];exact tT ⟨rfl,R4,sn4⟩
    case ipost=>
    rintro c st4 ⟨rfl,R4,sn4⟩;dsimp only;refine tP (vM ?_)
    have R5:SR a₀ lo (setPending st4 ((pendingOf st4).modify ((pendingOf st4).size-1) fun x=>(x.fst,x.2.fst,pw))):=⟨R4.perm,R4.kind,R4.failed,by
     show Runs (arrOf st4) 0 ((pendingOf st4).modify ((pendingOf st4).size-1) fun x=>(x.fst,x.2.fst,pw)).toList lo;rw[Array.toList_modify]
     exact R4.runs.mod (f:=fun x=>(x.fst,x.2.fst,pw)) fun x=>⟨rfl,rfl⟩⟩
    have sn5:bQ (arrOf (setPending st4 ((pendingOf st4).modify ((pendingOf st4).size-1) fun x=>(x.fst,x.2.fst,pw)))) lo N:=sn4;generalize (setPending st4 ((pendingOf st4).modify ((pendingOf st4).size-1) fun x=>(x.fst,x.2.fst,pw)))=st5 at R5 sn5 ⊢;refine tP (vM (tT ⟨lo+N,rfl,⟨R5.perm,R5.kind,R5.failed,?_⟩,by omega,by omega⟩));show Runs (arrOf st5) 0 ((pendingOf st5).push (lo,N,0)).toList (lo+N);rw[ur];exact Runs.app.mpr ⟨lo,R5.runs,rfl,n1,sn5,rfl⟩
  ·rw[tV c2];have n1:=m1;have n2:lo+m<=a₀.size:=(by omega);have B3:=B2;have sn3:=sn2;generalize st2=st3 at B3 sn3 ⊢;generalize m=N at n1 n2 sn3 ⊢
   have R3:SR a₀ lo st3:=⟨B3.perm,B3.kind,B3.failed,by
    rw[B3.pend]
    exact R.runs.of fun i _ g2=>K_congr (B3.keep i g2)⟩
   refine tP (wpS_get ?_);cases hb:(pendingOf st3).back? with
   |none=>dsimp only;have R5:=R3;have sn5:=sn3;generalize st3=st5 at R5 sn5 ⊢;refine tP (vM (tT ⟨lo+N,rfl,⟨R5.perm,R5.kind,R5.failed,?_⟩,by omega,by omega⟩));show Runs (arrOf st5) 0 ((pendingOf st5).push (lo,N,0)).toList (lo+N);rw[ur];exact Runs.app.mpr ⟨lo,R5.runs,rfl,n1,sn5,rfl⟩
   |some y=>
    obtain⟨s1,n1',w1⟩:=y;dsimp only;generalize power' a₀.size (2*s1+n1') (2*s1+n1'+n1'+N) a₀.size=pw;refine tP (wpS_mono (uS (I:=fun x c st'=>c=(none,())/\SR a₀ lo st'/\bQ (arrOf st') lo N) (Q:=fun c st'=>c=(none,())/\SR a₀ lo st'/\bQ (arrOf st') lo N) ?istep (fun c st' hh=>hh) ⟨rfl,R3,sn3⟩) ?ipost)
    case istep=>
     rintro x' c st' _ _ ⟨rfl,R4,sn4⟩;refine tP (wpS_get ?_);by_cases g1:(pendingOf st').size>1
     ·obtain⟨⟨q1,q2,q3⟩,e⟩:∃y,(pendingOf st')[(pendingOf st').size-2]?=some y:=⟨_,vJ (by omega)⟩;rw[tU g1,e];dsimp only;by_cases g2:q3<=pw
      ·rw[tU g2];exact tT ⟨rfl,R4,sn4⟩
      ·rw[tV g2];refine tP (iE h0 R4 (by omega) (by omega) fun st6 R6 _ k6=>?_)
       try dsimp only
       rw[tV (by decide)];exact tT ⟨rfl,R6,sn4.of fun i g1 g2=>k6 i g1⟩
     ·rw[tV g1];exact tT ⟨rfl,R4,sn4⟩
    case ipost=>
    rintro c st4 ⟨rfl,R4,sn4⟩;dsimp only;refine tP (vM ?_)
    have R5:SR a₀ lo (setPending st4 ((pendingOf st4).modify ((pendingOf st4).size-1) fun x=>(x.fst,x.2.fst,pw))):=⟨R4.perm,R4.kind,R4.failed,by
     show Runs (arrOf st4) 0 ((pendingOf st4).modify ((pendingOf st4).size-1) fun x=>(x.fst,x.2.fst,pw)).toList lo;rw[Array.toList_modify]
     exact R4.runs.mod (f:=fun x=>(x.fst,x.2.fst,pw)) fun x=>⟨rfl,rfl⟩⟩
    have sn5:bQ (arrOf (setPending st4 ((pendingOf st4).modify ((pendingOf st4).size-1) fun x=>(x.fst,x.2.fst,pw)))) lo N:=sn4;generalize (setPending st4 ((pendingOf st4).modify ((pendingOf st4).size-1) fun x=>(x.fst,x.2.fst,pw)))=st5 at R5 sn5 ⊢;refine tP (vM (tT ⟨lo+N,rfl,⟨R5.perm,R5.kind,R5.failed,?_⟩,by omega,by omega⟩));show Runs (arrOf st5) 0 ((pendingOf st5).push (lo,N,0)).toList (lo+N);rw[ur];exact Runs.app.mpr ⟨lo,R5.runs,rfl,n1,sn5,rfl⟩
 case post=>
  rintro c st1 ⟨rfl,R⟩;dsimp only;have l0:=R.runs.le;rw[tW]at l0;refine tP (wpS_mono (uS (I:=fun x c st'=>c=(none,())/\SR a₀ a₀.size st'/\(pendingOf st').size+x<=a₀.size) (Q:=fun c st'=>c=(none,())/\SR a₀ a₀.size st'/\(pendingOf st').size<=1) ?fstep ?ffin ⟨rfl,R,by omega⟩) ?fpost)
  case ffin=>rintro c st' ⟨rfl,R',l⟩;exact⟨rfl,R',by omega⟩
  case fstep=>
   rintro x c st' _ hx ⟨rfl,R',l⟩;refine tP (wpS_get ?_);by_cases g1:(pendingOf st').size<=1
   ·rw[tU g1];exact tT ⟨rfl,R',g1⟩
   ·rw[tV g1];refine tP (iE h0 R' (uc _) ?_ fun st6 R6 l6 _=>?_)
    ·exact rn (by omega) (by omega)
    ·try dsimp only
     rw[tV (by decide)];exact tT ⟨rfl,R6,by omega⟩
  case fpost=>
   rintro c st' ⟨rfl,R',l⟩;refine tT (h st' R'.perm R'.failed ?_);have rr:=R'.runs;have ll:(pendingOf st').toList.length<=1:=(by rw[tW];exact l);generalize (pendingOf st').toList=p at rr ll
   match p,rr,ll with
   | [],rr,_=>have:0=a₀.size:=rr;omega
   | [(t,n,w)],rr,_=>obtain⟨_,_,q3,q4⟩:=rr;have q4':0+n=a₀.size:=q4;intro i j hij hj;have:=q3 i j hij (by omega);rw[Nat.zero_add,Nat.zero_add]at this;exact this
   |_::_::_,_,ll=>simp at ll
end
end LT
namespace LT
open PySem PySem.Spec PyProof.Rows L2
section
variable{prog:Program}{w:World}{A:Around}{E:Value->Shared->Prop}{s:Shared}
theorem j7{v:Value}{Q:Bool->Shared->Prop}(hv:(v==v)=true)(q:Q true s):wpAny (model prog w) A (eqBool v v) Q E s:=by unfold eqBool;refine wpAny_holding ?_;rw[hv];exact tN (vN (tO q))
end
theorem ff{α β:Type}{f:α->β}:∀{zs:List α}{l:List β},l.Perm (zs.map f)->∃ys:List α,ys.Perm zs/\l=ys.map f:=by
 intro zs l h;generalize hm:zs.map f=m at h
 induction h generalizing zs with
 |nil=>rw[List.map_eq_nil_iff]at hm;subst hm;exact⟨[],.nil,rfl⟩
 |cons x _ ih=>obtain⟨z,zs',rfl,rfl,rfl⟩:=List.map_eq_cons_iff.mp hm;obtain⟨ys,h1,h2⟩:=ih rfl;exact⟨z::ys,h1.cons z,by rw[uO,h2]⟩
 |swap x y l=>obtain⟨z,zs',rfl,rfl,h2⟩:=List.map_eq_cons_iff.mp hm;obtain⟨z2,zs2,rfl,rfl,rfl⟩:=List.map_eq_cons_iff.mp h2;exact⟨z2::z::zs2,.swap z z2 zs2,rfl⟩
 |trans _ _ ih1 ih2=>obtain⟨ys,h1,rfl⟩:=ih2 hm;obtain⟨ws,h3,rfl⟩:=ih1 rfl;exact⟨ws,h3.trans h1,rfl⟩
section
variable{prog:Program}{w:World}{A:Around}{E:Value->Shared->Prop}{s:Shared}
theorem eO{M:Model}{α:Type}{f:Value->Sem α}{g:Value->α}:∀{vs:List Value}{Q:List α->Shared->Prop},(∀v∈vs,∀{R:α->Shared->Prop},R (g v) s->wpAny M A (f v) R E s)->Q (vs.map g) s->wpAny M A (vs.mapM f) Q E s
 | [],Q,_,q=>by rw[List.mapM_nil];exact tO q
 |v::vs,Q,h,q=>by rw[List.mapM_cons];refine tN (h v (tY ..) (tN (eO (g:=g) (fun u hu=>h u (t6 _ hu)) (tO q))))
theorem firstT (v : Value) : firstOfTuple' v = (do if (← typeOf v) != .type "tuple" then return none
                                                   return (← Builtin.List.listItems v)[0]?) := rfl
end
end LT
namespace L2
open PySem PySem.W
theorem ah{X:Cx}{body:List Stmt}{Z:TS->Prop}(n:Nat){u:TS}(r:PSs X (body.drop n) u)(k:let R:=u;PSs X (body.drop n) R->∃t,PSs X body t/\Z t):∃t,PSs X body t/\Z t:=k r
theorem aW{X:Cx}{body:List Stmt}{Z:TS->Prop}(k:let Y:=X;∃t,PSs Y body t/\Z t):∃t,PSs X body t/\Z t:=k
theorem sG{P:List Value->Prop}(h:∀a0,P [a0])(us:List Value)(hl:us.length=1):P us:=by
 cases us with
 |nil=>cases hl
 |cons a0 us=>exact(show P (a0::us)from by cases us with|nil=>exact h a0|cons b us=>cases hl)
theorem sF{P:List Value->Prop}(h:∀a0 a1,P [a0,a1])(us:List Value)(hl:us.length=2):P us:=by
 cases us with
 |nil=>cases hl
 |cons a0 us=>exact sG (P:=fun us=>P (a0::us)) (h a0) us (Nat.succ.inj hl)
theorem sE{P:List Value->Prop}(h:∀a0 a1 a2,P [a0,a1,a2])(us:List Value)(hl:us.length=3):P us:=by
 cases us with
 |nil=>cases hl
 |cons a0 us=>exact sF (P:=fun us=>P (a0::us)) (h a0) us (Nat.succ.inj hl)
theorem sD{P:List Value->Prop}(h:∀a0 a1 a2 a3,P [a0,a1,a2,a3])(us:List Value)(hl:us.length=4):P us:=by
 cases us with
 |nil=>cases hl
 |cons a0 us=>exact sE (P:=fun us=>P (a0::us)) (h a0) us (Nat.succ.inj hl)
theorem sC{P:List Value->Prop}(h:∀a0 a1 a2 a3 a4,P [a0,a1,a2,a3,a4])(us:List Value)(hl:us.length=5):P us:=by
 cases us with
 |nil=>cases hl
 |cons a0 us=>exact sD (P:=fun us=>P (a0::us)) (h a0) us (Nat.succ.inj hl)
theorem sA{P:List Value->Prop}(h:∀a0 a1 a2 a3 a4 a5,P [a0,a1,a2,a3,a4,a5])(us:List Value)(hl:us.length=6):P us:=by
 cases us with
 |nil=>cases hl
 |cons a0 us=>exact sC (P:=fun us=>P (a0::us)) (h a0) us (Nat.succ.inj hl)
theorem tH{P:List Value->Prop}(h:∀a0 a1 a2 a3 a4 a5 a6,P [a0,a1,a2,a3,a4,a5,a6])(us:List Value)(hl:us.length=7):P us:=by
 cases us with
 |nil=>cases hl
 |cons a0 us=>exact sA (P:=fun us=>P (a0::us)) (h a0) us (Nat.succ.inj hl)
end L2
namespace L2
open PySem PySem.Spec PyProof.Rows
section
variable{X:Cx}{tg:Expr}
def qJ(P:Program)(w:World)(K:Frag)(neg:Bool)(ty td:TE):TE:=fun σ H Q=>ty σ H fun y H1=>td σ H1 fun x H2=>∃d o T b c,x=.ref d/\b6 P w K H2 d o T/\y=.ref b/\dO K H2 b c/\Q (.bl (if neg then !(atT T c).isSome else(atT T c).isSome)) H2
theorem ia{i o:Expr}{td ty:TE}(hu:X.A.units+64<cLine)(hi:PE X i ty)(ho:PE X o td):PC X .NotIn i o (qJ X.prog X.w X.K true ty td):=by
 intro pins s σ H Q I h;refine thn (hi pins s σ H _ I h) fun iv s1 hPz=>L2.ep3 hPz fun y H1 I1 ry q1=>thn (ho pins s1 σ H1 _ I1 q1) fun u s2 hPz=>?_;obtain⟨x,H2,I2,rx,d,ob,T,b,c,ex,hc,ey,hb,q2⟩:=hPz;subst ex ey;cases rx;cases ry;obtain⟨h1,h2,h3,h4⟩:=hc;obtain⟨vs,rv,DD⟩:=h2.dict I2 h1 h4;refine wpAny_notIn_heap (show X.A.in1.units+3<cLine by simp only[Around.in1_units];omega) (hb.is I2) h3 DD ?_;have e:(atKey vs c).isSome=(atT T c).isSome:=by rcases qC (c:=c) rv with⟨z1,z2⟩|⟨v',p,z1,z2,_⟩<;>rw[z1,z2]<;>rfl
 rw[e];exact⟨.bl _,H2,I2.tok _,rfl,q2⟩
end
end L2
namespace L2
theorem mN{α:Type}{P:α->Prop}:∀p∈([]:List α),P p:=fun _ h=>nomatch h
theorem mC{α:Type}{P:α->Prop}{a:α}{l:List α}(h:P a)(t:∀p∈l,P p):∀p∈a::l,P p:=fun p hp=>by
 cases hp with
 |head=>exact h
 |tail _ hp=>exact t p hp
end L2
namespace L2
open PySem PySem.W
theorem dj{g:(St->Hp->Prop)->Prop}{t:TS}{D:Ends}(k:let D':=D;g fun σ2 H2=>t D' σ2 H2):g (fun σ2 H2=>t D σ2 H2):=k
theorem ip{t:TS}{D:Ends}{σ:St}{H:Hp}(k:let D':=D;t D' σ H):t D σ H:=k
theorem j0{g:(St->Hp->Prop)->Prop}{tt:TT}{te:TE}{q:VK}{r:Hp->Prop}(k:let q':=q;let r':=r;g fun σ2 H4=>tt σ2 H4 fun b H5=>if b=true then te σ2 H5 q' else r' H5):g (fun σ2 H4=>tt σ2 H4 fun b H5=>if b=true then te σ2 H5 q else r H5):=k
noncomputable def r6:Stmt->List Stmt
 | .For _ _ b _ _=>b
 | .While _ b _ _=>b
 |_=>[]
theorem aC{X:Cx}{body:List Stmt}{Z:TS->Prop}(k j:Nat){u:TS}(r:PSs X ((r6 (body.getD k (.Pass ⟨0,0,0,0⟩))).drop j) u)(h:let R:=u;PSs X ((r6 (body.getD k (.Pass ⟨0,0,0,0⟩))).drop j) R->∃t,PSs X body t/\Z t):∃t,PSs X body t/\Z t:=h r
end L2
namespace PySem
namespace F
theorem iX:typeLookup (.type "list") "keys"=pure none:=by rw[typeLookup_type,builtinLookup_eq_fast];kernel_rfl
theorem dI:typeLookup (.type "list") "__getattr__"=pure none:=by rw[typeLookup_type,builtinLookup_eq_fast];kernel_rfl
end F
section
variable{prog:Program}{w:World}{A:Around}{E:Value->Shared->Prop}{h:Heap}{g:Array GenState}{d:Drawn}{t:Nat}{os:OsState}{a:Addr}{o:Obj}
theorem fO{tk:Tok}{Q:Fin->Shared->Prop}(hh:A.handled=none)(hx:h.get? a=some o)(hc:o.cls=.type "list"){its:Array Value}{n:Nat}(hd:o.data=.seq its n)(hn:o.dict=none)
  (hq:∀h' t' e,fU h h' e->E (.ref e) ⟨h',g,d,t',os⟩):
  wpAny (model prog w) A (Builtin.«object.__getattribute__» ⟨[.ref a,.str "keys" tk],[]⟩) Q E ⟨h,g,d,t,os⟩:=by
 have hT:(⟨h,g,d,t,os⟩:Shared).TypeIs (.ref a) "list":=⟨_,hx,hc⟩;have f4:=F.iX;have f5:=F.dI
 repeat (any_goals (first|assumption|wp_step))
 rw[hd];dsimp only
 repeat (any_goals (first|assumption|wp_step))
 rw[hc,hn];dsimp only
 repeat (any_goals (first|assumption|wp_step))
 exact gR hh (by decide+kernel) hq
theorem gC{tk:Tok}{R:Result->Shared->Prop}(hh:A.handled=none)(hx:h.get? a=some o)(hc:o.cls=.type "list"){its:Array Value}{n:Nat}(hd:o.data=.seq its n)(hn:o.dict=none)
  (hq:∀h' t' e,fU h h' e->R (.error (.ref e)) ⟨h',g,d,t',os⟩):
  codeAny (model prog w) A (.call (.builtin "list.__getattribute__") ⟨[.ref a,.str "keys" tk],[]⟩) R ⟨h,g,d,t,os⟩:=
 codeAny_call_builtin F.slot_list_getattribute.plain F.entry_list_ga (F.slot_list_getattribute.check _ _ _ _ _ _ _ _ (show(⟨h,g,d,t,os⟩:Shared).TypeIs (.ref a) "list" from⟨_,hx,hc⟩) (F.args_list_getattribute_2 _ _)
  (fO (by simpa using hh) hx hc hd hn hq))
theorem iZ{tk:Tok}{Q:Value->Shared->Prop}(hh:A.handled=none)(hx:h.get? a=some o)(hc:o.cls=.type "list"){its:Array Value}{n:Nat}(hd:o.data=.seq its n)(hn:o.dict=none)
  (hq:∀h' t' e,fU h h' e->E (.ref e) ⟨h',g,d,t',os⟩):wpAny (model prog w) A (getAttrBy (.ref a) (.str "keys" tk) false) Q E ⟨h,g,d,t,os⟩:=by
 have hT:(⟨h,g,d,t,os⟩:Shared).TypeIs (.ref a) "list":=⟨_,hx,hc⟩;have f2:=F.slot_list_getattribute.lookup;have f3:=F.slot_list_getattribute.bind (.ref a);have f5:=F.dI
 repeat (any_goals (first|assumption|wp_step))
 refine gC hh hx hc hd hn fun h' t' e he=>?_;obtain⟨oe,ho,hce⟩:=he.2;have hTe:(⟨h',g,d,t',os⟩:Shared).TypeIs (.ref e) "AttributeError":=⟨_,ho,hce⟩;have f6:=F.fZ;have hq':=hq h' t' e he
 repeat (any_goals (first|assumption|wp_step))
theorem gD{Q:Option Value->Shared->Prop}(hh:A.handled=none)(hx:h.get? a=some o)(hc:o.cls=.type "list"){its:Array Value}{n:Nat}(hd:o.data=.seq its n)(hn:o.dict=none)
  (hq:∀h' t',(∀b ob,h.get? b=some ob->h'.get? b=some ob)->Q none ⟨h',g,d,t',os⟩):wpAny (model prog w) A (getAttr? (.ref a) "keys") Q E ⟨h,g,d,t,os⟩:=by
 unfold getAttr? getAttrBy?;refine tN (wpAny_mkText ?_);refine tN (wpAny_attempt (iZ hh hx hc hd hn fun h' t' e he=>?_));obtain⟨oe,ho,hce⟩:=he.2;dsimp only;refine tN (wpAny_isInstance (T:="AttributeError") (b:=true) ⟨_,ho,hce⟩ F.fZ ?_);rw[tU rfl];exact tO (hq _ _ he.1)
end
end PySem
namespace LO
inductive Dr|e|n|w|s
deriving DecidableEq
namespace Dr
noncomputable def lf:Dr->Dr|e=>n|n=>w|w=>s|s=>e
noncomputable def rt:Dr->Dr|e=>s|s=>w|w=>n|n=>e
noncomputable def dx:Dr->Int|e=>1|n=>0|w=>-1|s=>0
noncomputable def dy:Dr->Int|e=>0|n=>1|w=>0|s=>-1
noncomputable def cx:Dr->Int->Int|e,x=>x|n,x=>x-1|w,x=>x-1|s,x=>x
noncomputable def cy:Dr->Int->Int|e,y=>y|n,y=>y|w,y=>y-1|s,y=>y-1
end Dr
@[ext] structure Sd where
 x:Int
 y:Int
 d:Dr
deriving DecidableEq
noncomputable abbrev Gr:=Int->Int->Bool
noncomputable def at4(G:Gr)(x y:Int)(d:Dr):Bool:=G (d.cx x) (d.cy y)
noncomputable def brd(G:Gr)(s:Sd):Bool:=at4 G s.x s.y s.d&& !at4 G s.x s.y s.d.rt
noncomputable def Sd.ex(s:Sd):Int:=s.x+s.d.dx
noncomputable def Sd.ey(s:Sd):Int:=s.y+s.d.dy
noncomputable def nxt(G:Gr)(s:Sd):Sd:=if brd G ⟨s.ex,s.ey,s.d.lf⟩=true then⟨s.ex,s.ey,s.d.lf⟩else if brd G ⟨s.ex,s.ey,s.d⟩=true then⟨s.ex,s.ey,s.d⟩else⟨s.ex,s.ey,s.d.rt⟩
theorem nZ(d:Dr):d.lf.rt=d:=by cases d<;>rfl
theorem se(d:Dr):d.rt.lf=d:=by cases d<;>rfl
theorem oy(G:Gr)(s:Sd):at4 G s.ex s.ey s.d.lf=at4 G s.x s.y s.d:=by obtain⟨x,y,d⟩:=s;cases d<;>simp[at4,Sd.ex,Sd.ey,Dr.lf,Dr.dx,Dr.dy,Dr.cx,Dr.cy]<;>congr 1<;>omega
theorem ox(G:Gr)(s:Sd):at4 G s.ex s.ey s.d.lf.lf=at4 G s.x s.y s.d.rt:=by obtain⟨x,y,d⟩:=s;cases d<;>simp[at4,Sd.ex,Sd.ey,Dr.lf,Dr.rt,Dr.dx,Dr.dy,Dr.cx,Dr.cy]<;>congr 1<;>omega
theorem qu(d:Dr):d.rt.rt=d.lf.lf:=by cases d<;>rfl
theorem cg{G:Gr}{s:Sd}:brd G s=true<->at4 G s.x s.y s.d=true/\at4 G s.x s.y s.d.rt=false:=by unfold brd;rw[va,Bool.not_eq_true']
theorem dA{G:Gr}{s:Sd}(h:brd G s=true):nxt G s=⟨s.ex,s.ey,if at4 G s.ex s.ey s.d=false then s.d.lf else if at4 G s.ex s.ey s.d.rt=false then s.d else s.d.rt⟩:=by
 obtain⟨h1,h2⟩:=cg.mp h;have e1:brd G ⟨s.ex,s.ey,s.d.lf⟩= !at4 G s.ex s.ey s.d:=by show(at4 G s.ex s.ey s.d.lf&& !at4 G s.ex s.ey s.d.lf.rt)=_;rw[oy,h1,nZ];rfl
 have e2:brd G ⟨s.ex,s.ey,s.d⟩=(at4 G s.ex s.ey s.d&& !at4 G s.ex s.ey s.d.rt):=rfl;unfold nxt;rw[e1,e2];cases at4 G s.ex s.ey s.d<;>cases at4 G s.ex s.ey s.d.rt<;>rfl
theorem pJ{G:Gr}{s:Sd}(h:brd G s=true):brd G (nxt G s)=true:=by
 obtain⟨h1,h2⟩:=cg.mp h;rw[dA h,cg];have l:=oy G s;have r:=ox G s;rw[h1]at l;rw[h2]at r;cases a:at4 G s.ex s.ey s.d with
 |false=>show at4 G s.ex s.ey s.d.lf=true/\at4 G s.ex s.ey s.d.lf.rt=false;rw[nZ];exact⟨l,a⟩
 |true=>
  cases b:at4 G s.ex s.ey s.d.rt with
  |false=>exact⟨a,b⟩
  |true=>show at4 G s.ex s.ey s.d.rt=true/\at4 G s.ex s.ey s.d.rt.rt=false;rw[qu];exact⟨b,r⟩
theorem jR{G:Gr}{s t:Sd}(h:brd G s=true)(e:nxt G s=t):s=⟨t.x-(if at4 G t.x t.y t.d.lf=false then t.d.rt else if at4 G t.x t.y t.d.rt.rt=false then t.d else t.d.lf).dx,t.y-(if at4 G t.x t.y t.d.lf=false then t.d.rt else if at4 G t.x t.y t.d.rt.rt=false then t.d else t.d.lf).dy,if at4 G t.x t.y t.d.lf=false then t.d.rt else if at4 G t.x t.y t.d.rt.rt=false then t.d else t.d.lf⟩:=by
 obtain⟨h1,h2⟩:=cg.mp h;have l:=oy G s;have r:=ox G s;rw[h1]at l;rw[h2]at r;have key:(if at4 G t.x t.y t.d.lf=false then t.d.rt else if at4 G t.x t.y t.d.rt.rt=false then t.d else t.d.lf)=s.d:=by
  rw[<-e,dA h];cases a:at4 G s.ex s.ey s.d with
  |false=>show(if at4 G s.ex s.ey s.d.lf.lf=false then s.d.lf.rt else _)=_;rw[r,nZ];rfl
  |true=>
   cases b:at4 G s.ex s.ey s.d.rt with
   |false=>show(if at4 G s.ex s.ey s.d.lf=false then s.d.rt else if at4 G s.ex s.ey s.d.rt.rt=false then s.d else s.d.lf)=_;rw[l,qu,r];rfl
   |true=>show(if at4 G s.ex s.ey s.d.rt.lf=false then s.d.rt.rt else if at4 G s.ex s.ey s.d.rt.rt.rt=false then s.d.rt else s.d.rt.lf)=_;have x3:s.d.rt.rt.rt=s.d.lf:=(by cases s.d<;>rfl);rw[se,a,x3,l];rfl
 rw[key];have ex:t.x=s.ex:=by rw[<-e,dA h]
 have ey:t.y=s.ey:=by rw[<-e,dA h]
 rw[ex,ey];ext
 ·show s.x=s.x+s.d.dx-s.d.dx;omega
 ·show s.y=s.y+s.d.dy-s.d.dy;omega
 ·rfl
theorem pI{G:Gr}{s t:Sd}(hs:brd G s=true)(ht:brd G t=true)(e:nxt G s=nxt G t):s=t:=by have a:=jR hs rfl;have b:=jR ht rfl;rw[e]at a;exact a.trans b.symm
noncomputable def itr(G:Gr)(s:Sd):Nat->Sd
 | 0=>s
 |k+1=>nxt G (itr G s k)
theorem cc{G:Gr}{s:Sd}(h:brd G s=true):∀k,brd G (itr G s k)=true
 | 0=>h
 |k+1=>pJ (cc h k)
noncomputable def wlk(G:Gr)(s:Sd)(n:Nat):List Sd:=(List.range n).map (itr G s)
theorem fW(G:Gr)(s:Sd)(n:Nat):wlk G s (n+1)=wlk G s n++[itr G s n]:=by unfold wlk;rw[vB,uZ];rfl
theorem oQ{G:Gr}{s:Sd}(h:brd G s=true){n:Nat}(nd:(wlk G s n).Nodup)(ne:itr G s n≠s):itr G s n∉wlk G s n:=fun z=>by
 obtain⟨j,hj,e⟩:=uu.mp z;rw[uU]at hj;cases j with
 |zero=>exact ne e.symm
 |succ j=>
  cases n with
  |zero=>cases hj
  |succ n=>have e':=pI (cc h j) (cc h n) e;have:=uY.mp (List.nodup_iff_pairwise_ne.mp nd) j n (by unfold wlk;rw[tX,ve];omega) (by unfold wlk;rw[tX,ve];omega) (by omega);unfold wlk at this;rw[List.getElem_map,List.getElem_map,List.getElem_range,List.getElem_range]at this;exact this e'
structure kl(G:Gr)(W:List Sd):Prop where
 ex:∃s n,brd G s=true/\0<n/\W=wlk G s n/\itr G s n=s
 nd:W.Nodup
theorem kl.brd{G:Gr}{W:List Sd}(h:kl G W):∀t∈W,brd G t=true:=fun t ht=>by obtain⟨s,n,hb,_,rfl,_⟩:=h.ex;obtain⟨j,_,rfl⟩:=uu.mp ht;exact cc hb j
theorem kl.cl{G:Gr}{W:List Sd}(h:kl G W):∀t∈W,nxt G t∈W:=fun t ht=>by
 obtain⟨s,n,hb,h0,rfl,e⟩:=h.ex;obtain⟨j,hj,rfl⟩:=uu.mp ht;rw[uU]at hj;by_cases z:j+1=n
 ·have:nxt G (itr G s j)=s:=by
   show itr G s (j+1)=s;rw[z];exact e
  rw[this];exact uu.mpr ⟨0,uU.mpr h0,rfl⟩
 ·exact uu.mpr ⟨j+1,uU.mpr (by omega),rfl⟩
theorem oP{G:Gr}{s:Sd}{n:Nat}{X:Sd->Prop}(cl:∀t,X t->X (nxt G t))(e:itr G s n=s)(ns:¬X s):∀t∈wlk G s n,¬X t:=fun t ht hx=>by
 obtain⟨j,hj,rfl⟩:=uu.mp ht;rw[uU]at hj;have key:∀m,X (itr G s (j+m)):=fun m=>by
  induction m with
  |zero=>exact hx
  |succ m ih=>exact cl _ ih
 have:=key (n-j);rw[show j+(n-j)=n by omega,e]at this;exact ns this
noncomputable abbrev Pt:=Int×Int
noncomputable def Sd.st(s:Sd):Pt:=(s.x,s.y)
noncomputable def Sd.en(s:Sd):Pt:=(s.ex,s.ey)
noncomputable def cor:Dr->List Sd->List Pt
 |_,[]=>[]
 |d,s::W=>if s.d≠d then s.st::cor s.d W else cor s.d W
inductive Chn:Pt->List Sd->Prop
 |nil {p:Pt}:Chn p []
 |cons {p:Pt} {s:Sd} {W:List Sd}:s.st=p->Chn s.en W->Chn p (s::W)
noncomputable def jc:Pt->List Sd->Pt
 |p,[]=>p
 |_,s::W=>jc s.en W
section
variable{A:Type}(op:A->A->A)(u:A)(f:Pt->Pt->A)
noncomputable def bf:Pt->List Pt->A
 |_,[]=>u
 |c,q::qs=>op (f c q) (bf q qs)
noncomputable def dM:List Sd->A
 | []=>u
 |s::W=>op (f s.st s.en) (dM W)
structure km:Prop where
 as:∀a b c,op (op a b) c=op a (op b c)
 cm:∀a b,op a b=op b a
 un:∀a,op u a=a
 z:∀p,f p p=u
 ln:∀(c:Pt)(d:Dr)(k:Nat),f c (c.1+k*d.dx+d.dx,c.2+k*d.dy+d.dy)=op (f c (c.1+k*d.dx,c.2+k*d.dy)) (f (c.1+k*d.dx,c.2+k*d.dy) (c.1+k*d.dx+d.dx,c.2+k*d.dy+d.dy))
variable{op u f}
theorem gk(h:km op u f):∀(W:List Sd)(c:Pt)(d:Dr)(k:Nat),Chn (c.1+k*d.dx,c.2+k*d.dy) W->bf op u f c (cor d W++[jc (c.1+k*d.dx,c.2+k*d.dy) W])=op (f c (c.1+k*d.dx,c.2+k*d.dy)) (dM op u f W)
 | [],c,d,k,_=>rfl
 |s::W,c,d,k,.cons e t=>by
  have e2:s.en=(s.st.1+s.d.dx,s.st.2+s.d.dy):=rfl;by_cases z:s.d=d
  ·have e3:cor d (s::W)=cor s.d W:=tV (fun y=>y z);have e4:s.en=(c.1+(k+1:Nat)*d.dx,c.2+(k+1:Nat)*d.dy):=by
    rw[e2,e,z];ext
    ·show c.1+k*d.dx+d.dx=c.1+(k+1:Nat)*d.dx;rw[Int.natCast_add,Int.add_mul];omega
    ·show c.2+k*d.dy+d.dy=c.2+(k+1:Nat)*d.dy;rw[Int.natCast_add,Int.add_mul];omega
   have e5:s.en=(c.1+k*d.dx+d.dx,c.2+k*d.dy+d.dy):=(by rw[e2,e,z]);rw[e3,z];show bf op u f c (cor d W++[jc s.en W])=op _ (op (f s.st s.en) (dM op u f W));have ih:=gk h W c d (k+1) (by rw[<-e4];exact t);rw[<-e4]at ih;rw[ih,<-h.as,e,e5,h.ln c d k]
  ·have e3:cor d (s::W)=s.st::cor s.d W:=tU z;rw[e3];show op (f c s.st) (bf op u f s.st (cor s.d W++[jc s.en W]))=op _ (op (f s.st s.en) (dM op u f W));have e4:s.en=(s.st.1+(1:Nat)*s.d.dx,s.st.2+(1:Nat)*s.d.dy):=by
    rw[e2];ext
    ·show s.st.1+s.d.dx=s.st.1+(1:Nat)*s.d.dx;omega
    ·show s.st.2+s.d.dy=s.st.2+(1:Nat)*s.d.dy;omega
   have ih:=gk h W s.st s.d 1 (by rw[<-e4];exact t);rw[<-e4]at ih;rw[ih,e]
theorem hZ(h:km op u f):∀(qs:List Pt)(c z:Pt),bf op u f c (qs++[z])=op (bf op u f c qs) (f ((c::qs).getLast (uK _ _)) z)
 | [],c,z=>by show op (f c z) u=op u (f c z);exact h.cm _ _
 |q::qs,c,z=>by show op (f c q) (bf op u f q (qs++[z]))=op (op (f c q) (bf op u f q qs)) _;rw[hZ h qs q z,h.as];rfl
noncomputable def bK(op:A->A->A)(u:A)(f:Pt->Pt->A):List Pt->A
 | []=>u
 |c::qs=>op (f ((c::qs).getLast (uK _ _)) c) (bf op u f c qs)
theorem nz(h:km op u f){s:Sd}{W:List Sd}{d:Dr}(hd:s.d≠d)(ch:Chn s.st (s::W))(cl:jc s.st (s::W)=s.st):bK op u f (cor d (s::W))=dM op u f (s::W):=by
 have e3:cor d (s::W)=s.st::cor s.d W:=tU hd;have e4:s.en=(s.st.1+(1:Nat)*s.d.dx,s.st.2+(1:Nat)*s.d.dy):=by
  show(s.st.1+s.d.dx,s.st.2+s.d.dy)=_;ext
  ·show s.st.1+s.d.dx=s.st.1+(1:Nat)*s.d.dx;omega
  ·show s.st.2+s.d.dy=s.st.2+(1:Nat)*s.d.dy;omega
 cases ch with
 |cons _ t=>have a:=gk h W s.st s.d 1 (by rw[<-e4];exact t);rw[<-e4]at a;have cl':jc s.en W=s.st:=cl;rw[cl',hZ h]at a;rw[e3];show op _ (bf op u f s.st (cor s.d W))=op (f s.st s.en) (dM op u f W);rw[h.cm,a]
theorem jw(h:km op u f):∀(V W:List Sd),dM op u f (V++W)=op (dM op u f V) (dM op u f W)
 | [],W=>(h.un _).symm
 |s::V,W=>by show op _ (dM op u f (V++W))=op (op _ _) _;rw[jw h V W,h.as]
theorem gZ(h:km op u f):∀(Ws:List (List Sd)),dM op u f Ws.flatten=Ws.foldr (fun W a=>op (dM op u f W) a) u
 | []=>rfl
 |W::Ws=>by rw[List.flatten_cons,jw h,gZ h Ws];rfl
end
theorem lj{G:Gr}{s:Sd}(h:brd G s=true):∀(n k:Nat),Chn (itr G s k).st ((List.range n).map fun j=>itr G s (k+j))
 | 0,_=>.nil
 |n+1,k=>by
  rw[List.range_succ_eq_map,uO,uX];refine .cons rfl ?_;have e:(itr G s (k+0)).en=(itr G s (k+1)).st:=by show _=(nxt G (itr G s k)).st;rw[dA (cc h k)];rfl
  rw[e];have:=lj h n (k+1);refine cast (congrArg (Chn _) (List.map_congr_left fun j _=>?_)) this;show itr G s (k+1+j)=itr G s (k+(j+1));congr 1;omega
theorem lg{G:Gr}{s:Sd}(h:brd G s=true):∀(n k:Nat),jc (itr G s k).st ((List.range n).map fun j=>itr G s (k+j))=(itr G s (k+n)).st
 | 0,_=>rfl
 |n+1,k=>by
  rw[List.range_succ_eq_map,uO,uX];have e:(itr G s (k+0)).en=(itr G s (k+1)).st:=by show _=(nxt G (itr G s k)).st;rw[dA (cc h k)];rfl
  show jc (itr G s (k+0)).en _=_;rw[e];have:=lg h n (k+1);rw[show k+(n+1)=k+1+n by omega,<-this];congr 1;refine List.map_congr_left fun j _=>?_;show itr G s (k+(j+1))=itr G s (k+1+j);congr 1;omega
theorem oO{G:Gr}{s:Sd}(h:brd G s=true){n:Nat}(e:itr G s n=s):Chn s.st (wlk G s n)/\jc s.st (wlk G s n)=s.st:=by
 have a:=lj h n 0;have b:=lg h n 0;have c:((List.range n).map fun j=>itr G s (0+j))=wlk G s n:=by unfold wlk;exact List.map_congr_left fun j _=>by rw[Nat.zero_add]
 rw[c]at a b;rw[Nat.zero_add,e]at b;exact⟨a,b⟩
def sm(p q:Pt):Prop:=p.1<q.1\/(p.1=q.1/\p.2<q.2)
theorem kq{G:Gr}{s:Sd}(h:brd G s=true){n:Nat}(n0:0<n)(e:itr G s n=s)(least:∀t∈wlk G s n,¬sm t.st s.st):s.d≠(itr G s (n-1)).d:=fun z=>by
 have h1:itr G s n=nxt G (itr G s (n-1)):=by obtain⟨m,rfl⟩:∃m,n=m+1:=⟨n-1,by omega⟩;rfl
 have hb:=cc h (n-1);rw[e,dA hb]at h1;have ex:s.x=(itr G s (n-1)).x+(itr G s (n-1)).d.dx:=congrArg Sd.x h1;have ey:s.y=(itr G s (n-1)).y+(itr G s (n-1)).d.dy:=congrArg Sd.y h1;have m1:=least _ (uu.mpr ⟨n-1,uU.mpr (by omega),rfl⟩);rw[<-z]at ex ey;have step:n=1\/itr G s 1∈wlk G s n:=by
  by_cases y:n=1
  ·exact .inl y
  ·exact .inr (uu.mpr ⟨1,uU.mpr (by omega),rfl⟩)
 have e1:(itr G s 1).st=(s.x+s.d.dx,s.y+s.d.dy):=by show(nxt G s).st=_;rw[dA h];rfl
 rcases step with y|y
 ·subst y;have ex':s.x=s.x+s.d.dx:=ex;have ey':s.y=s.y+s.d.dy:=ey;cases hd:s.d<;>rw[hd]at ex' ey'<;>simp[Dr.dx,Dr.dy]at ex' ey'<;>omega
 ·have m2:=least _ y;rw[e1]at m2;have e2:(itr G s (n-1)).st=(s.x-s.d.dx,s.y-s.d.dy):=by
   ext
   ·show(itr G s (n-1)).x=s.x-s.d.dx;omega
   ·show(itr G s (n-1)).y=s.y-s.d.dy;omega
  rw[e2]at m1;cases hd:s.d<;>rw[hd]at m1 m2
  ·exact m1 (.inl (by show s.x-1<s.x;omega))
  ·exact m1 (.inr ⟨by show s.x-0=s.x;omega,by show s.y-1<s.y;omega⟩)
  ·exact m2 (.inl (by show s.x+ -1<s.x;omega))
  ·exact m2 (.inr ⟨by show s.x+0=s.x;omega,by show s.y+ -1<s.y;omega⟩)
theorem nv{s t:Sd}(h1:s.x=t.x)(h2:s.y=t.y)(h3:s.ex=t.ex)(h4:s.ey=t.ey):s=t:=by obtain⟨a,b,d⟩:=s;obtain⟨a',b',d'⟩:=t;have h1:a=a':=h1;have h2:b=b':=h2;subst h1 h2;have h3:a+d.dx=a+d'.dx:=h3;have h4:b+d.dy=b+d'.dy:=h4;cases d<;>cases d'<;>first|rfl|(simp[Dr.dx,Dr.dy]at h3 h4;done)|(simp[Dr.dx,Dr.dy]at h3 h4;omega)
end LO
namespace LO
open LM
noncomputable def grd(w h g:Nat):Gr:=fun x y=>decide (0<=x)&&decide (x<w)&&decide (0<=y)&&decide (y<h)&&g.testBit (y.toNat*w+x.toNat)
noncomputable def dg{α:Type}(p:α->Bool)(l:List α):Bool:=l.foldr (fun s b=>Bool.xor (p s) b) false
theorem cI{α:Type}(p:α->Bool)(a:α)(l:List α):dg p (a::l)=Bool.xor (p a) (dg p l):=rfl
theorem ib{α:Type}{p:α->Bool}:∀{l:List α},(∀a∈l,p a=false)->dg p l=false
 | [],_=>rfl
 |a::l,h=>by rw[cI,h a (tY ..),ib fun b hb=>h b (t6 _ hb)];rfl
theorem gs{α:Type}(p q:α->Bool):∀(l:List α),dg (fun a=>Bool.xor (p a) (q a)) l=Bool.xor (dg p l) (dg q l)
 | []=>rfl
 |a::l=>by rw[cI,cI,cI,gs p q l];cases p a<;>cases q a<;>cases dg p l<;>cases dg q l<;>rfl
theorem gu{a:Sd}:∀{l:List Sd},l.Nodup->dg (fun s=>decide (s=a)) l=decide (a∈l)
 | [],_=>rfl
 |b::l,nd=>by
  rw[List.nodup_cons]at nd;rw[cI,gu nd.2];by_cases z:b=a
  ·subst z;rw[tS rfl,tQ nd.1,tS (tY ..)];rfl
  ·rw[tQ z];by_cases y:a∈l
   ·rw[tS y,tS (t6 _ y)];rfl
   ·rw[tQ y,tQ (fun u=>(uy.mp u).elim (fun v=>z v.symm) y)];rfl
noncomputable def upr(y:Int)(s:Sd):Bool:=(decide (s.d=.n)&&decide (s.y=y))||(decide (s.d=.s)&&decide (s.y=y+1))
noncomputable def hit(x y:Int)(s:Sd):Bool:=upr y s&&decide (s.x<=x)
theorem om(x y:Int)(s:Sd):hit (x+1) y s=Bool.xor (hit x y s) (Bool.xor (decide (s=⟨x+1,y,.n⟩)) (decide (s=⟨x+1,y+1,.s⟩))):=by
 obtain⟨a,b,d⟩:=s;have e:∀{a b:Int}{d:Dr}{a' b':Int}{d':Dr},((⟨a,b,d⟩:Sd)=⟨a',b',d'⟩)<->a=a'/\b=b'/\d=d':=fun {a b d a' b' d'}=>⟨fun h=>by cases h;exact⟨rfl,rfl,rfl⟩,fun⟨h1,h2,h3⟩=>by rw[h1,h2,h3]⟩;simp only[hit,upr,e];by_cases h1:a<=x
 ·have h2:a<=x+1:=by omega
  have h3:¬a=x+1:=by omega
  simp[h1,h2,h3]
 ·by_cases h3:a=x+1
  ·subst h3;cases d<;>simp[h1]
  ·have h2:¬a<=x+1:=(by omega);simp[h1,h2,h3]
theorem iG{G:Gr}{x y:Int}:brd G ⟨x,y,.n⟩=(G (x-1) y&& !G x y)/\brd G ⟨x,y+1,.s⟩=(G x y&& !G (x-1) y):=by
 constructor
 ·rfl
 ·show(G x (y+1-1)&& !G (x-1) (y+1-1))=_;rw[show y+1-1=y by omega]
theorem nI{G:Gr}{U:List Sd}(nd:U.Nodup)(all:∀s,s∈U<->brd G s=true)(neg:∀x y,x<0->G x y=false)(y:Int):∀k:Nat,dg (hit ((k:Int)-1) y) U=G ((k:Int)-1) y
 | 0=>by
  rw[neg _ _ (by omega)];refine ib fun s hs=>?_;have hb:=(all s).mp hs;obtain⟨a,b,d⟩:=s;show(upr y ⟨a,b,d⟩&&decide (a<=((0:Nat):Int)-1))=false;by_cases z:a<=((0:Nat):Int)-1
  ·have u1:∀r,G (a-1) r=false:=fun r=>neg _ _ (by omega);have u2:∀r,G a r=false:=fun r=>neg _ _ (by omega);cases d with
   |e=>rfl
   |w=>rfl
   |n=>rw[iG.1,u1]at hb;cases hb
   |s=>have:brd G ⟨a,b,.s⟩=(G a (b-1)&& !G (a-1) (b-1)):=rfl;rw[this,u2]at hb;cases hb
  ·rw[tQ z,vh]
 |k+1=>by
  have ih:=nI nd all neg y k;have e:((k+1:Nat):Int)-1=((k:Int)-1)+1:=by omega
  rw[e];rw[show hit (((k:Int)-1)+1) y=fun s=>Bool.xor (hit ((k:Int)-1) y s) (Bool.xor (decide (s=⟨((k:Int)-1)+1,y,.n⟩)) (decide (s=⟨((k:Int)-1)+1,y+1,.s⟩)))from funext fun s=>om _ _ _];rw[gs,gs,ih,gu nd,gu nd];have m:∀t,decide (t∈U)=brd G t:=fun t=>by
   by_cases z:brd G t=true
   ·rw[tS ((all t).mpr z),z]
   ·rw[tQ (fun y=>z ((all t).mp y)),eq_false_of_ne_true z]
  rw[m,m,iG.1,iG.2,show((k:Int)-1)+1-1=(k:Int)-1 by omega];cases G ((k:Int)-1) y<;>cases G (((k:Int)-1)+1) y<;>rfl
noncomputable def cb(w h:Nat)(u:Pt):Nat:=bZ 0 ((List.range (w*h)).filter fun k=>decide (((k / w:Nat):Int)=u.2)&&decide (u.1<=((k % w:Nat):Int)))
theorem jh{w h:Nat}{u:Pt}{k:Nat}:(cb w h u).testBit k=(decide (k<w*h)&&(decide (((k / w:Nat):Int)=u.2)&&decide (u.1<=((k % w:Nat):Int)))):=by unfold cb;rw[uT,dh,List.mem_filter,uU];simp only[va,uE]
noncomputable def ups(a b:Pt):List Pt:=if a.1=b.1 then(List.range (max a.2 b.2-min a.2 b.2).toNat).map fun j:Nat=>(b.1,min a.2 b.2+(j:Int))else[]
noncomputable def cv(w h:Nat)(us:List Pt):Nat:=us.foldl (fun c u=>c^^^cb w h u) 0
theorem fo(w h:Nat):∀(us:List Pt)(c:Nat),us.foldl (fun c u=>c^^^cb w h u) c=c^^^cv w h us
 | [],c=>(Nat.xor_zero c).symm
 |u::us,c=>by show us.foldl _ (c^^^cb w h u)=c^^^us.foldl _ (0^^^cb w h u);rw[fo w h us,fo w h us (0^^^_),vF,Nat.xor_assoc]
theorem dP(w h:Nat)(us vs:List Pt):cv w h (us++vs)=cv w h us^^^cv w h vs:=by unfold cv;rw[List.foldl_append];exact fo w h vs _
theorem eN(w h:Nat)(u:Pt):cv w h [u]=cb w h u:=vF _
noncomputable def fX(w h:Nat)(a b:Pt):Nat:=cv w h (ups a b)
theorem lp{a b:Pt}(h:a.1≠b.1):ups a b=[]:=tV h
theorem eH(x y:Int)(k:Nat):ups (x,y) (x,y+k)=(List.range k).map fun j:Nat=>(x,y+(j:Int)):=by unfold ups;rw[tU rfl];show(List.range (max y (y+k)-min y (y+k)).toNat).map (fun j:Nat=>(x,min y (y+k)+(j:Int)))=_;rw[show min y (y+k)=y by omega,show(max y (y+k)-y).toNat=k by omega]
theorem fY(x y:Int)(k:Nat):ups (x,y) (x,y-k)=(List.range k).map fun j:Nat=>(x,y-k+(j:Int)):=by unfold ups;rw[tU rfl];show(List.range (max y (y-k)-min y (y-k)).toNat).map (fun j:Nat=>(x,min y (y-k)+(j:Int)))=_;rw[show min y (y-k)=y-k by omega,show(max y (y-k)-(y-k)).toNat=k by omega]
theorem rK(w h:Nat):km (·^^^·) 0 (fX w h) where
 as:=Nat.xor_assoc
 cm:=Nat.xor_comm
 un:=vF
 z:=fun p=>by
  unfold fX;have:ups p p=[]:=by have:=eH p.1 p.2 0;rw[show p.2+((0:Nat):Int)=p.2 by omega]at this;exact this
  rw[this];rfl
 ln:=fun c d k=>by
  obtain⟨x,y⟩:=c;have hz:∀{a b:Pt},a.1≠b.1->fX w h a b=0:=fun {a b} e=>by unfold fX;rw[lp e];rfl
  have h0:∀p:Pt,fX w h p p=0:=fun p=>by unfold fX;have:=eH p.1 p.2 0;rw[show p.2+((0:Nat):Int)=p.2 by omega]at this;have e:ups p p=[]:=this;rw[e];rfl
  cases d with
  |e=>
   show fX w h (x,y) (x+k*1+1,y+k*0+0)=fX w h (x,y) (x+k*1,y+k*0)^^^fX w h (x+k*1,y+k*0) (x+k*1+1,y+k*0+0);rw[hz (a:=(x,y)) (b:=(x+k*1+1,_)) (by show x≠x+k*1+1;omega),hz (a:=(x+k*1,_)) (b:=(x+k*1+1,_)) (by show x+k*1≠x+k*1+1;omega)];by_cases z:k=0
   ·subst z;rw[show((x:Int)+((0:Nat):Int)*1,y+((0:Nat):Int)*0)=(x,y) by ext<;>simp,h0];rfl
   ·rw[hz (a:=(x,y)) (b:=(x+k*1,_)) (by show x≠x+k*1;omega)];rfl
  |w=>
   show fX w h (x,y) (x+k* -1+ -1,y+k*0+0)=fX w h (x,y) (x+k* -1,y+k*0)^^^fX w h (x+k* -1,y+k*0) (x+k* -1+ -1,y+k*0+0);rw[hz (a:=(x,y)) (b:=(x+k* -1+ -1,_)) (by show x≠x+k* -1+ -1;omega),hz (a:=(x+k* -1,_)) (b:=(x+k* -1+ -1,_)) (by show x+k* -1≠x+k* -1+ -1;omega)];by_cases z:k=0
   ·subst z;rw[show((x:Int)+((0:Nat):Int)* -1,y+((0:Nat):Int)*0)=(x,y) by ext<;>simp,h0];rfl
   ·rw[hz (a:=(x,y)) (b:=(x+k* -1,_)) (by show x≠x+k* -1;omega)];rfl
  |n=>show fX w h (x,y) (x+k*0+0,y+k*1+1)=fX w h (x,y) (x+k*0,y+k*1)^^^fX w h (x+k*0,y+k*1) (x+k*0+0,y+k*1+1);rw[show(x+(k:Int)*0+0,y+(k:Int)*1+1)=(x,y+((k+1:Nat):Int)) by ext<;>simp<;>omega,show(x+(k:Int)*0,y+(k:Int)*1)=(x,y+(k:Int)) by ext<;>simp];unfold fX;rw[eH,eH,show(x,y+((k+1:Nat):Int))=(x,(y+(k:Int))+((1:Nat):Int)) by ext<;>simp<;>omega,eH,vB,uZ,dP];congr 1;show cv w h [(x,y+(k:Int))]=cv w h [(x,y+(k:Int)+((0:Nat):Int))];rw[show y+(k:Int)+((0:Nat):Int)=y+(k:Int) by omega]
  |s=>
   show fX w h (x,y) (x+k*0+0,y+k* -1+ -1)=fX w h (x,y) (x+k*0,y+k* -1)^^^fX w h (x+k*0,y+k* -1) (x+k*0+0,y+k* -1+ -1);rw[show(x+(k:Int)*0+0,y+(k:Int)* -1+ -1)=(x,y-((k+1:Nat):Int)) by ext<;>simp<;>omega,show(x+(k:Int)*0,y+(k:Int)* -1)=(x,y-(k:Int)) by ext<;>simp<;>omega];unfold fX;rw[fY,fY,show(x,y-((k+1:Nat):Int))=(x,(y-(k:Int))-((1:Nat):Int)) by ext<;>simp<;>omega,fY,Nat.xor_comm,List.range_succ_eq_map,uO,uX];rw[show ∀(a:Pt)(l:List Pt),a::l=[a]++l from fun _ _=>rfl,dP];congr 1
   ·show cv w h [(x,y-((k+1:Nat):Int)+((0:Nat):Int))]=cv w h [(x,y-(k:Int)-((1:Nat):Int)+((0:Nat):Int))];rw[show y-((k+1:Nat):Int)+((0:Nat):Int)=y-(k:Int)-((1:Nat):Int)+((0:Nat):Int) by omega]
   ·congr 1;refine List.map_congr_left fun j _=>?_;show(x,y-((k+1:Nat):Int)+((j+1:Nat):Int))=(x,y-(k:Int)+(j:Int));ext
    ·rfl
    ·show y-((k+1:Nat):Int)+((j+1:Nat):Int)=y-(k:Int)+(j:Int);omega
theorem qa{w h:Nat}(hw:0<w){s:Sd}{k:Nat}(hk:k<w*h):(fX w h s.st s.en).testBit k=hit ((k % w:Nat):Int) ((k / w:Nat):Int) s:=by
 obtain⟨x,y,d⟩:=s;have hz:∀{a b:Pt},a.1≠b.1->(fX w h a b).testBit k=false:=fun {a b} e=>by unfold fX;rw[lp e];exact Nat.zero_testBit k
 cases d with
 |e=>exact hz (by show x≠x+1;omega)
 |w=>exact hz (by show x≠x+ -1;omega)
 |n=>show(fX w h (x,y) (x+0,y+1)).testBit k=_;unfold fX;rw[show(x+0,y+1)=(x,y+((1:Nat):Int)) by ext<;>simp,eH];show(cv w h [(x,y+((0:Nat):Int))]).testBit k=(((decide (Dr.n=.n)&&decide (y=_))||(decide (Dr.n=.s)&&decide (y=_+1)))&&decide (x<=_));rw[eN,jh,tS hk];simp[eq_comm]
 |s=>
  show(fX w h (x,y) (x+0,y+ -1)).testBit k=_;unfold fX;rw[show(x+0,y+ -1)=(x,y-((1:Nat):Int)) by ext<;>simp<;>omega,fY];show(cv w h [(x,y-((1:Nat):Int)+((0:Nat):Int))]).testBit k=(((decide (Dr.s=.n)&&decide (y=_))||(decide (Dr.s=.s)&&decide (y=_+1)))&&decide (x<=_));rw[eN,jh,tS hk,show decide (Dr.s=Dr.n)=false from rfl,show decide (Dr.s=Dr.s)=true from rfl,vI,Bool.false_or,Bool.true_and,Bool.true_and];congr 1;by_cases z:y=((k / w:Nat):Int)+1
  ·rw[tS z,tS (by show((k / w:Nat):Int)=y-((1:Nat):Int)+((0:Nat):Int);omega)]
  ·rw[tQ z,tQ (by show ¬((k / w:Nat):Int)=y-((1:Nat):Int)+((0:Nat):Int);omega)]
theorem jv{w h:Nat}(hw:0<w){k:Nat}(hk:k<w*h):∀(W:List Sd),(dM (·^^^·) 0 (fX w h) W).testBit k=dg (hit ((k % w:Nat):Int) ((k / w:Nat):Int)) W
 | []=>Nat.zero_testBit k
 |s::W=>by show(fX w h s.st s.en^^^dM _ _ _ W).testBit k=_;rw[Nat.testBit_xor,jv hw hk W,qa hw hk];rfl
theorem sP{w h:Nat}{s:Sd}{k:Nat}(hk:¬k<w*h):(fX w h s.st s.en).testBit k=false:=by
 have key:∀us:List Pt,(cv w h us).testBit k=false:=by
  intro us
  suffices h':∀(us:List Pt)(c:Nat),c.testBit k=false->(us.foldl (fun c u=>c^^^cb w h u) c).testBit k=false from h' us 0 (Nat.zero_testBit k)
  intro us
  induction us with
  |nil=>exact fun c hc=>hc
  |cons u us ih=>intro c hc;refine ih _ ?_;rw[Nat.testBit_xor,hc,jh,tQ hk];rfl
 exact key _
theorem oT{w h g:Nat}(hw:0<w)(hg:g<2^(w*h)){U:List Sd}(nd:U.Nodup)(all:∀s,s∈U<->brd (grd w h g) s=true):dM (·^^^·) 0 (fX w h) U=g:=by
 refine qk fun k=>?_;by_cases hk:k<w*h
 ·rw[jv hw hk];have:=nI (G:=grd w h g) nd all (fun x y hx=>by unfold grd;rw[tQ (show ¬0<=x by omega)];rfl) ((k / w:Nat):Int) (k % w+1);rw[show((k % w+1:Nat):Int)-1=((k % w:Nat):Int) by omega]at this;rw[this];have m:=Nat.mod_lt k hw;have q:k / w<h:=Nat.div_lt_of_lt_mul hk;unfold grd;rw[tS (Int.natCast_nonneg (k % w)),tS (Int.ofNat_lt.mpr m),tS (Int.natCast_nonneg (k / w)),tS (Int.ofNat_lt.mpr q),uP,uP];have e:k / w*w+k % w=k:=by rw[Nat.mul_comm];exact Nat.div_add_mod k w
  rw[e];rfl
 ·have z:g.testBit k=false:=Nat.testBit_lt_two_pow (ud hg (vK (by decide) (by omega)));rw[z];clear nd all
  induction U with
  |nil=>exact Nat.zero_testBit k
  |cons s U ih=>show(fX w h s.st s.en^^^dM _ _ _ U).testBit k=_;rw[Nat.testBit_xor,ih,sP hk];rfl
end LO
namespace LT
open PySem PySem.Spec PyProof.Rows L2
def Is2(h:Heap)(a:Addr)(p:Int×Int):Prop:=∃o n t u,h.get? a=some o/\o.cls=.type "tuple"/\o.data=.seq #[.int p.1 t,.int p.2 u] n
noncomputable def ltP(p q:Int×Int):Bool:=decide (p.1<q.1)||(decide (p.1=q.1)&&decide (p.2<q.2))
section
variable{prog:Program}{w:World}{A:Around}{E:Value->Shared->Prop}{s:Shared}
theorem Is2.ty{a:Addr}{p:Int×Int}(h:Is2 s.heap a p):s.TypeIs (.ref a) "tuple":=by obtain⟨o,n,t,u,h1,h2,_⟩:=h;exact⟨o,h1,h2⟩
theorem lN{x y:Int}{t u:Tok}{Q:Value->Shared->Prop}(q:Q (.bool (decide (x<y))) s):wpAny (model prog w) A (richCompare .Lt (.int x t) (.int y u)) Q E s:=
 wpAny_richCompare_same (typeIs_int s x t) (typeIs_int s y u) slot_int_lt (call_int_lt ⟨fun z=>(nomatch z),q⟩)
theorem lP{x y:Int}{t u:Tok}{Q:Bool->Shared->Prop}(q:Q (decide (x=y)) s):wpAny (model prog w) A (eqBool (.int x t) (.int y u)) Q E s:=by
 refine wpAny_eqBool_int ?_;have:(x==y)=decide (x=y):=by
  by_cases z:x=y
  ·rw[tS z];exact beq_iff_eq.mpr z
  ·rw[tQ z];exact beq_eq_false_iff_ne.mpr z
 rw[this];exact q
theorem gN{a b:Addr}{p r:Int×Int}{P:PySem.Fin->Shared->Prop}(hx:Is2 s.heap a p)(hy:Is2 s.heap b r)(h:P (.done (.ret (.bool (ltP p r)))) s):wpAny (model prog w) A (Builtin.«tuple.__lt__» ⟨[.ref a,.ref b],[]⟩) P E s:=by
 have hTb:=hy.ty;obtain⟨oa,na,t1,t2,hoa,_,hda⟩:=hx;obtain⟨ob,nb,u1,u2,hob,_,hdb⟩:=hy;show wpAny _ _ (isInstance (.ref b) (.type "tuple")>>= _) _ _ s;refine tN (wpAny_isInstance hTb isSubtype_tuple_tuple ?_);simp only[Bool.not_true,uH,if_false];refine tN (wpAny_tupleItemsOf hoa hda ?_);refine tN (wpAny_tupleItemsOf hob hdb ?_);refine tN ?_;show wpAny _ _ (forIn [(Value.int p.1 t1,Value.int r.1 u1),(Value.int p.2 t2,Value.int r.2 u2)] _ _) _ _ s;rw[List.forIn_cons];refine tN (tN (lP ?_));unfold ltP at h;by_cases e:p.1=r.1
 ·rw[tS e]at h ⊢;rw[tQ (show ¬p.1<r.1 by omega)]at h;simp only[Bool.not_true,uH,if_false];refine tO ?_;dsimp only;rw[List.forIn_cons];refine tN (tN (lP ?_));by_cases e2:p.2=r.2
  ·rw[tS e2];rw[tQ (show ¬p.2<r.2 by omega)]at h;simp only[Bool.not_true,uH,if_false];refine tO ?_;dsimp only;rw[List.forIn_nil];refine tO ?_;exact tO h
  ·rw[tQ e2];simp only[Bool.not_false,if_true];refine tN (vN ?_);refine tN (lN ?_);exact tN (tO (tO (tO (tO h))))
 ·rw[tQ e]at h ⊢;simp only[Bool.not_false,if_true];refine tN (vN ?_);refine tN (lN ?_);rw[vI,Bool.or_false]at h;exact tN (tO (tO (tO (tO h))))
theorem nU{a b:Addr}{p r:Int×Int}{Q:Value->Shared->Prop}(hu:A.units<cLine)(hx:Is2 s.heap a p)(hy:Is2 s.heap b r)(q:Q (.bool (ltP p r)) s):wpAny (model prog w) A (richCompare .Lt (.ref a) (.ref b)) Q E s:=
 wpAny_richCompare_same_room hx.ty hy.ty F.slot_tuple_lt (wpAny_call_entry F.slot_tuple_lt hx.ty F.entry_tuple_lt (gN hx hy ⟨_,rfl,(fun z=>nomatch z),q⟩) (F.args_tuple_lt_2 _ _)) hu
end
open LO in
noncomputable def sdN(s:LO.Sd):Int:=((s.x*16+s.y)*16+s.ex)*16+s.ey
def gO(s:LO.Sd):Prop:=(0<=s.x/\s.x<16)/\(0<=s.y/\s.y<16)/\(0<=s.ex/\s.ex<16)/\(0<=s.ey/\s.ey<16)
noncomputable def ltS(s t:LO.Sd):Bool:=if(s.x,s.y)=(t.x,t.y)then ltP (s.ex,s.ey) (t.ex,t.ey)else ltP (s.x,s.y) (t.x,t.y)
theorem pO{s t:LO.Sd}(hs:gO s)(ht:gO t):ltS s t=decide (sdN s<sdN t):=by
 obtain⟨a1,a2,a3,a4⟩:=hs;obtain⟨b1,b2,b3,b4⟩:=ht;unfold ltS ltP sdN;generalize s.ex=c at*;generalize s.ey=d at*;generalize t.ex=c' at*;generalize t.ey=d' at*;generalize s.x=a at*;generalize s.y=b at*;generalize t.x=a' at*;generalize t.y=b' at*;rw[uT];by_cases z:(a,b)=(a',b')
 ·rw[tU z];have z1:a=a':=congrArg Prod.fst z;have z2:b=b':=congrArg Prod.snd z;simp only[Bool.or_eq_true,va,uE];constructor<;>intro h<;>omega
 ·rw[tV z];have z':¬(a=a'/\b=b'):=fun⟨y1,y2⟩=>z (by rw[y1,y2]);simp only[Bool.or_eq_true,va,uE];constructor<;>intro h<;>omega
noncomputable abbrev AS:=List (Addr×LO.Sd)
noncomputable def codeAt(zs:AS)(a:Addr):Int:=((zs.find? fun z=>decide (z.1=a)).map fun z=>sdN z.2).getD 0
def qp(zs:AS):Prop:=∀z∈zs,∀y∈zs,z.1=y.1->z.2=y.2
theorem fA{zs:AS}(h:qp zs){z:Addr×LO.Sd}(hz:z∈zs):codeAt zs z.1=sdN z.2:=by
 unfold codeAt;cases e:zs.find? fun y=>decide (y.1=z.1)with
 |none=>exact absurd (List.find?_eq_none.mp e z hz) (by simp)
 |some y=>
  have e1:y.1=z.1:=by have:=List.find?_some e;simpa using this
  exact congrArg sdN (h y (List.mem_of_find?_eq_some e) z hz e1)
noncomputable abbrev n6(zs:AS):KN where
 kn:=fun p=>match p.1 with| .ref a=>codeAt zs a|_=>0
 isK:=fun p=>∃z∈zs,p=(.ref z.1,.ref z.1)
 kd:=tuples' false
def gX(h:Heap)(a:Addr)(s:LO.Sd):Prop:=∃o n p q,h.get? a=some o/\o.cls=.type "tuple"/\o.data=.seq #[.ref p,.ref q] n/\Is2 h p (s.x,s.y)/\Is2 h q (s.ex,s.ey)
section
variable{prog:Program}{w:World}{A:Around}{E:Value->Shared->Prop}{s:Shared}
theorem Is2.key{h:Heap}{a:Addr}{p:Int×Int}(k:Is2 h a p):IsTupleKey (bb prog w) h [.inl p.1,.inl p.2] a:=by obtain⟨o,n,t,u,h1,h2,h3⟩:=k;exact⟨o,_,n,h1,h2,h3,.cons (oh (k:=.inl p.1) ⟨t,rfl⟩) (.cons (oh (k:=.inl p.2) ⟨u,rfl⟩) .nil)⟩
theorem kM{a b:Addr}{p r:Int×Int}{Q:Bool->Shared->Prop}(hu:A.units<cLine)(hx:Is2 s.heap a p)(hy:Is2 s.heap b r)(q:Q (decide (p=r)) s):wpAny (model prog w) A (eqBool (.ref a) (.ref b)) Q E s:=by
 refine wpAny_eqBool_tuple (knd:=bb prog w) hu hx.key hy.key ?_;have:decide (([.inl p.1,.inl p.2]:List Key)=[.inl r.1,.inl r.2])=decide (p=r):=by
  rw[uT,uE,uE];constructor
  ·intro h;obtain⟨h1,h2⟩:=uD h;exact Prod.ext (Sum.inl.inj h1) (Sum.inl.inj (uD h2).1)
  ·intro h;rw[h]
 rw[this];exact q
theorem pN{a b:Addr}{x y:LO.Sd}{Q:Bool->Shared->Prop}(hu:A.units<cLine)(ha:gX s.heap a x)(hb:gX s.heap b y)(q:Q (ltS x y) s):wpAny (model prog w) A (keyLt' (tuples' false) (.ref a) (.ref b)) Q E s:=by
 obtain⟨o,n,p1,p2,e1,e2,e3,e4,e5⟩:=ha;obtain⟨o',n',q1,q2,f1,f2,f3,f4,f5⟩:=hb;refine PySem.W.kat_lt e1 e3 f1 f3 ?_;show PySem.W.KatLex prog w A false _ Q [(.ref p1,.ref q1),(.ref p2,.ref q2)] 0 s;unfold ltS at q;have one:∀{c d:Addr}{u v:Int×Int},Is2 s.heap c u->Is2 s.heap d v->Q (ltP u v) s->wpAny (model prog w) A (oneLt' false (.ref c) (.ref d)) Q (fun _ _=>False) s:=fun h1 h2 h3=>PySem.W.kat_one _ _ (nU hu h1 h2 h3);refine PySem.W.kat_cons (kM hu e4 f4 (PySem.W.kat_go (fun z=>?_) (fun z=>?_)))
 ·rw[tU (vd z)]at q;refine PySem.W.kat_yes (PySem.W.kat_cons (kM hu e5 f5 (PySem.W.kat_go (fun y'=>?_) (fun y'=>?_))))
  ·refine PySem.W.kat_yes (PySem.W.kat_nil ?_);have y2:=vd y';have:ltP (x.ex,x.ey) (y.ex,y.ey)=false:=by
    rw[y2];unfold ltP;rw[tQ (Int.lt_irrefl _),tQ (Int.lt_irrefl _),vh];rfl
   rw[this]at q;exact q
  ·exact PySem.W.kat_no (one e5 f5 q)
 ·rw[tV (of_decide_eq_false z)]at q;exact PySem.W.kat_no (one e4 f4 q)
theorem mP{zs:AS}(hu:A.units<cLine)(hz:∀z∈zs,gX s.heap z.1 z.2)(ok:∀z∈zs,gO z.2)(one:qp zs): @gM prog w A E s (n6 zs):=by letI:=n6 zs;refine⟨fun {st x y Q} hk hx hy h=>?_⟩;obtain⟨z,mz,rfl⟩:=hx;obtain⟨y,my,rfl⟩:=hy;rw[lt'_eq];refine tP (wpS_get ?_);rw[hk];refine tP (wpS_lift (wpAny_attempt (pN hu (hz z mz) (hz y my) ⟨rfl,?_⟩)));refine tT ?_;have e1:KN.kn (.ref z.1,.ref z.1)=sdN z.2:=fA one mz;have e2:KN.kn (.ref y.1,.ref y.1)=sdN y.2:=fA one my;rw[e1,e2,<-pO (ok z mz) (ok y my)]at h;exact h
noncomputable def aB(zs:AS):List Value:=zs.map fun z=>.ref z.1
theorem gX.keep{h h':Heap}{a:Addr}{x:LO.Sd}(k:∀b o,h.get? b=some o->o.cls=.type "tuple"->h'.get? b=some o)(i:gX h a x):gX h' a x:=by have k2:∀{b:Addr}{p:Int×Int},Is2 h b p->Is2 h' b p:=fun⟨o,n,t,u,h1,h2,h3⟩=>⟨o,n,t,u,k _ _ h1 h2,h2,h3⟩;obtain⟨o,n,p,q,h1,h2,h3,h4,h5⟩:=i;exact⟨o,n,p,q,k _ _ h1 h2,h2,h3,k2 h4,k2 h5⟩
theorem mR{zs:AS}(hz:∀z∈zs,gX s.heap z.1 z.2)(h2:zs≠[]){Q:SortKind->Shared->Prop}(q:Q (tuples' false) s):wpAny (model prog w) A (keyKind' (aB zs).toArray) Q E s:=by
 have key:∀v∈aB zs,∃x,s.TypeIs (.ref x) "tuple"/\∀{R:Option Value->Shared->Prop},R (some (.ref x)) s->wpAny (model prog w) A (firstOfTuple' v) R E s:=fun v hv=>by obtain⟨z,mz,rfl⟩:=uu.mp hv;obtain⟨o,n,p1,p2,e1,e2,e3,e4,e5⟩:=hz z mz;refine⟨p1,e4.ty,fun {R} r=>?_⟩;rw[firstT];refine tN (wpAny_typeOf (T:="tuple") ⟨o,e1,e2⟩ ?_);rw[tV (by simp)];exact tN (listItems_at e1 e3 (tO r))
 have gex:∀v:Value,∃u:Value,v∈aB zs->(∃x,u=.ref x/\s.TypeIs (.ref x) "tuple")/\∀{R:Option Value->Shared->Prop},R (some u) s->wpAny (model prog w) A (firstOfTuple' v) R E s:=fun v=>by
  by_cases hv:v∈aB zs
  ·obtain⟨x,t,h⟩:=key v hv;exact⟨.ref x,fun _=>⟨⟨x,rfl,t⟩,h⟩⟩
  ·exact⟨.none,fun z=>absurd z hv⟩
 let g:Value->Value:=fun v=>(gex v).choose;have hg:∀v∈aB zs,(∃x,g v=.ref x/\s.TypeIs (.ref x) "tuple")/\∀{R:Option Value->Shared->Prop},R (some (g v)) s->wpAny (model prog w) A (firstOfTuple' v) R E s:=fun v hv=>(gex v).choose_spec hv;rw[keyKind'_eq,List.mapM_toArray,<-bind_pure_comp];refine tN (tN (eO (g:=fun v=>some (g v)) (fun v hv {R} r=>(hg v hv).2 r) (tO ?_)));have c1:((aB zs).map fun v=>some (g v)).toArray.all (·.isSome)=true:=by simp
 rw[tU c1];have e1:((aB zs).map fun v=>some (g v)).toArray.filterMap id=((aB zs).map g).toArray:=by simp[List.filterMap_toArray,List.filterMap_map]
 refine tN (vN ?_);rw[e1,oneTypeOnly'_eq,List.mapM_toArray,<-bind_pure_comp];refine tN (tN (tN (eO (f:=typeOf) (g:=fun _=>Value.type "tuple") (fun v hv {R} r=>?_) (tO ?_))))
 ·obtain⟨u,hu,rfl⟩:=uu.mp hv;obtain⟨x,e,t⟩:=(hg u hu).1;rw[e];exact wpAny_typeOf t r
 ·have hl:(((aB zs).map g).map fun _=>Value.type "tuple").toArray[0]?=some (Value.type "tuple"):=by
   cases zs with
   |nil=>exact absurd rfl h2
   |cons z zs=>simp[aB]
  rw[hl];have ha:(((aB zs).map g).map fun _=>Value.type "tuple").toArray.all (·==Value.type "tuple")=true:=by simp only[List.all_toArray,List.all_map,List.all_eq_true];intro _ _;rfl
  refine tO ?_;rw[ha];exact tO q
theorem mi{a:Addr}{zs:AS}{n:Nat}{P:PySem.Fin->Shared->Prop}(ho:s.heap.get? a=some (seqObj "list" (aB zs).toArray n))(hu:A.units<cLine)(hz:∀z∈zs,gX s.heap z.1 z.2)(ok:∀z∈zs,gO z.2)(one:qp zs)(h64:zs.length<1000)
  (h:∀ys:AS,ys.Perm zs->(ys.map fun z=>sdN z.2).Pairwise (·<=·)->P (.done (.ret .none)) {s with heap:=sortedHeap s.heap a (aB zs) (aB ys).toArray}):
  wpAny (model prog w) A (Builtin.«list.sort» ⟨[.ref a],[]⟩) P E s:=by
 rw[list_sort_plain];have ha:a<s.heap.objs.size:=t9 ho;have lz:(aB zs).length=zs.length:=tX ..;refine tN (listItems_at ho rfl ?_);refine tN (listUpdate_at ho rfl ?_ (by rw[uh,lz,vm];omega) (uJ _));obtain⟨e1,ho1⟩:∃e1,(s.heap.update a (Obj.mapSeq fun _=> #[])).get? a=some (seqObj "list" #[] e1):=⟨_,get?_update_seq ho (fun _=> #[])⟩;refine tN (seqEpoch_at ho1 rfl ?_);refine tN (wpAny_newTuple ?_ (by show(aB zs).length<=_;rw[lz,vm];omega));refine tN (wpAny_newList ?_ (uJ _));refine wpAny_holding ?_;have ho6:(((s.heap.update a (Obj.mapSeq fun _=> #[])).push (seqObj "tuple" (aB zs).toArray 0)).push (seqObj "list" #[] 0)).get? a=some (seqObj "list" #[] e1):=tR _ (tR _ ho1);have hz6:∀z∈zs,gX (((s.heap.update a (Obj.mapSeq fun _=> #[])).push (seqObj "tuple" (aB zs).toArray 0)).push (seqObj "list" #[] 0)) z.1 z.2:=fun z mz=>by
  refine(hz z mz).keep fun b o f1 f2=>?_;have na:b≠a:=fun w=>by rw[w,ho]at f1;cases f1;have f2':Value.type "list"=Value.type "tuple":=f2;exact absurd f2' (by decide)
  exact tR _ (tR _ (((Heap.SameBut.update s.heap a _).2 b na).trans f1))
 show wpAny (model prog w) A _ P E {s with heap:=((s.heap.update a (Obj.mapSeq fun _=> #[])).push (seqObj "tuple" (aB zs).toArray 0)).push (seqObj "list" #[] 0)};dsimp only;have pz:(pairsOf (aB zs)).toList=zs.map fun z=>((.ref z.1,.ref z.1):Keyed):=by rw[pairsOf_toList];unfold aB;rw[List.zip_map']
 have outL:∀{ar:Array Keyed}{ys:AS},ar.toList=ys.map (fun z=>((.ref z.1,.ref z.1):Keyed))->ar.map (·.2)=(aB ys).toArray:=fun {ar ys} e=>by apply Array.ext';rw[Array.toList_map,e,uX];rfl
 by_cases h2:(aB zs).toArray.size<2
 ·rw[tU h2,tU h2];refine tN (tO ?_);rw[StateT.run_pure];refine tN (tO ?_);dsimp only;refine tN (seqEpoch_at ho6 rfl ?_);have eo:=outL (ar:=pairsOf (aB zs)) (ys:=zs) pz;refine tN (listUpdate_at ho6 rfl ?_ (uJ _) (by show((pairsOf (aB zs)).map (·.2)).size<=_;rw[eo,uh,lz,vm];omega));simp only[bne_self_eq_false,uH,if_false];refine tO ?_;show P _ {s with heap:=(((s.heap.update a (Obj.mapSeq fun _=> #[])).push (seqObj "tuple" (aB zs).toArray 0)).push (seqObj "list" #[] 0)).update a (Obj.mapSeq fun _=>(pairsOf (aB zs)).map (·.2))};rw[eo];refine h zs (.refl _) ?_;rw[uh,lz]at h2
  match zs,h2 with
  | [],_=>exact .nil
  | [z],_=>exact vu _ _
 ·rw[tV h2,tV h2];rw[uh,lz]at h2;refine tN (mR hz6 (fun w=>h2 (by rw[w];decide)) ?_);letI:=n6 zs;haveI:gM prog w A E {s with heap:=((s.heap.update a (Obj.mapSeq fun _=> #[])).push (seqObj "tuple" (aB zs).toArray 0)).push (seqObj "list" #[] 0)}:=mP hu hz6 ok one;refine tN (vc (fF (a₀:=pairsOf (aB zs)) (st:=SortSt.mk' (tuples' false) ((aB zs).toArray.zip (aB zs).toArray) #[] 7 none) (Q:=fun _ st'=>(arrOf st').Perm (pairsOf (aB zs))/\failedOf st'=none/\SortedTo (arrOf st') (pairsOf (aB zs)).size) (fun p hp=>?_) (Array.Perm.refl _) rfl rfl rfl (by rw[pairsOf_size,lz];omega) fun st' q1 q2 q3=>⟨q1,q2,q3⟩) ?_ fun _ _ e=>e)
  ·rw[pz]at hp;obtain⟨z,mz,rfl⟩:=uu.mp hp;exact⟨z,mz,rfl⟩
  rintro⟨⟨⟩,st'⟩ s' ⟨rfl,hp,hf,hs⟩;dsimp only;obtain⟨ys,py,ey⟩:=ff (f:=fun z:Addr×LO.Sd=>((.ref z.1,.ref z.1):Keyed)) (zs:=zs) (l:=(arrOf st').toList) (by rw[<-pz];exact vD.mp hp);have eo:=outL ey;have ly:(aB ys).length=zs.length:=by rw[aB,tX];exact py.length_eq
  refine tN (seqEpoch_at ho6 rfl ?_);refine tN (listUpdate_at ho6 rfl ?_ (uJ _) (by show((arrOf st').map (·.2)).size<=_;rw[eo,uh,ly,vm];omega));rw[hf];simp only[bne_self_eq_false,uH,if_false];refine tO ?_;rw[eo];refine h ys py ?_;rw[uY];intro i j hi hj hij;rw[tX]at hi hj;have sz:(pairsOf (aB zs)).size=ys.length:=by rw[pairsOf_size,lz];exact py.length_eq.symm
  have le:=hs i j (Nat.le_of_lt hij) (by rw[sz];exact hj);have at_:∀k(hk:k<ys.length),K (arrOf st') k=sdN (ys[k]'hk).2:=fun k hk=>by unfold K;rw[<-ug,ey,uV,ui hk];exact fA one (py.mem_iff.mp (List.getElem_mem hk))
  rw[at_ i hi,at_ j hj]at le;rw[List.getElem_map,List.getElem_map];exact le
end
section
variable{X:Cx}
def cR(K:Frag)(H:Hp)(b:Addr)(s:LO.Sd):Prop:=∃p q,SqT K H b [.ref p,.ref q]/\SqT K H p [.int s.x,.int s.y]/\SqT K H q [.int s.ex,.int s.ey]
theorem kP(hu:X.A.units+64<cLine):dJ X (.builtin "sorted") (fun xs H Q=>∃(p:Addr)(zs:AS),xs=[.ref p]/\SqL X.K H p (zs.map fun z=>V.ref z.1)/\(∀z∈zs,cR X.K H z.1 z.2)/\(∀z∈zs,gO z.2)/\zs.length<1000/\
  ∀(l:Addr)(ys:AS),H l=none->ys.Perm zs->(ys.map fun z=>sdN z.2).Pairwise (·<=·)->Q (.ref l) (upd H l (.lst (ys.map fun z=>V.ref z.1)))):=by
 intro pins s σ H xs us Q I r h;obtain⟨p,zs,rfl,hx,hz,ok,h64,q⟩:=h;obtain⟨u,rfl,ru⟩:=vals1 r;cases ru;obtain⟨vs,rv,pl,hzl⟩:=I.list hx;have refs:∀{ys:AS}{us:List Value},Vals (ys.map fun z=>V.ref z.1) us->us=aB ys:=by
  intro ys
  induction ys with
  |nil=>intro us r;cases r;rfl
  |cons z ys ih=>
   intro us r;rw[uO]at r;cases r with
   |cons a b=>cases a;rw[ih b];rfl
 have valsR:∀ys:AS,Vals (ys.map fun z=>V.ref z.1) (aB ys):=by
  intro ys
  induction ys with
  |nil=>exact .nil
  |cons z ys ih=>exact .cons rfl ih
 obtain rfl:=refs rv;have two:∀{b:Addr}{x y:Int},SqT X.K H b [.int x,.int y]->Is2 s.heap b (x,y):=fun {b x y} hb=>by obtain⟨its,rv',⟨o,e1,e2,n,e3⟩,_⟩:=I.tuple hb;obtain⟨v1,v2,rfl,⟨t,rfl⟩,⟨t',rfl⟩⟩:=vals2 rv';exact⟨o,n,t,t',e1,e2,e3⟩
 have tn:∀z∈zs,gX s.heap z.1 z.2:=fun z mz=>by obtain⟨p1,p2,h1,h2,h3⟩:=hz z mz;obtain⟨its,rv',⟨o,e1,e2,n,e3⟩,_⟩:=I.tuple h1;obtain⟨v1,v2,rfl,r1,r2⟩:=vals2 rv';cases r1;cases r2;exact⟨o,n,p1,p2,e1,e2,e3,two h2,two h3⟩
 have one:qp zs:=fun z mz y my e=>by
  obtain⟨p1,p2,h1,h2,h3⟩:=hz z mz;obtain⟨q1,q2,k1,k2,k3⟩:=hz y my;rw[e]at h1;have a:=I.tuple_inj h1 k1;obtain⟨a1,a2⟩:=uD a;have a2':=(uD a2).1;cases a1;cases a2';have b:=I.tuple_inj h2 k2;have c:=I.tuple_inj h3 k3;refine LO.nv ?_ ?_ ?_ ?_
  ·exact V.int.inj (uD b).1
  ·exact V.int.inj (uD (uD b).2).1
  ·exact V.int.inj (uD c).1
  ·exact V.int.inj (uD (uD c).2).1
 have lz:(aB zs).length=zs.length:=tX ..;refine Calls.call_function_entry kind_sorted plain_sorted entry_sorted (args_sorted1 _) ?_;unfold Builtin.«sorted»;refine tN (m:=checkCount "sorted" 1 1 _) (tO ?_);refine tN (collect_list pl.isList ?_ (by rw[lz,vm];omega));refine tN (wpAny_newList ?_ (by show(aB zs).length<=_;rw[lz,vm];omega));have hsz:((s.heap.push (seqObj "list" #[] 0)).update s.heap.objs.size (Obj.mapSeq (·++(aB zs).toArray))).objs.size=s.heap.objs.size+1:=by rw[Heap.size_update,size_push']
 have hoL:(((s.heap.push (seqObj "list" #[] 0)).update s.heap.objs.size (Obj.mapSeq (·++(aB zs).toArray))).push (seqObj "list" (aB zs).toArray 0)).get? (s.heap.objs.size+1)=some (seqObj "list" (aB zs).toArray 0):=by rw[<-hsz];exact um _ rfl
 have kp:∀b o,s.heap.get? b=some o->(((s.heap.push (seqObj "list" #[] 0)).update s.heap.objs.size (Obj.mapSeq (·++(aB zs).toArray))).push (seqObj "list" (aB zs).toArray 0)).get? b=some o:=fun b o e=>tR _ (((Heap.SameBut.update _ s.heap.objs.size _).2 b (uz (t9 e))).trans (tR _ e))
 show wpAny _ _ _ _ _ {s with heap:=((s.heap.push (seqObj "list" #[] 0)).update s.heap.objs.size (Obj.mapSeq (·++(aB zs).toArray))).push (seqObj "list" (aB zs).toArray 0)};rw[hsz];refine tN (wpAny_holding (wpAny_call_entry slot_list_sort ⟨_,hoL,rfl⟩ entry_list_sort (mi hoL (by simp;omega) (fun z mz=>(tn z mz).keep fun b o e _=>kp _ _ e) ok one h64 fun ys py so=>⟨_,rfl,?_⟩) (args_list_sort _)));refine tO ⟨_,rfl,?_⟩;obtain⟨e,he⟩:=sortedAll_at s.heap (aB zs) (aB ys).toArray;have fr:H (s.heap.objs.size+1)=none:=I.hok.fresh (Nat.le_succ _);have ly:=py.length_eq;exact⟨.ref _,_,I.track (t':=s.toks) (n:=e) (its:=aB ys) (I.fpOk (Nat.le_succ _) fr) (fun b o _ z=>sortedAll_old z) (valsR ys) (by rw[tX,vm];omega) he,rfl,q _ ys fr py so⟩
end
def jm(h:Heap)(a:Addr)(p:Int×Int):Prop:=∃its n b,h.get? a=some {cls:=.type "list",data:=.seq its n}/\its[0]?=some (.ref b)/\Is2 h b p
section
theorem nW(l b:Addr)(items items2:Array Value)(n n2:Nat)(c d:Addr)(p q:Int×Int)(ne:p≠q)(h1:items[0]?=some (.ref c))(h2:items2[0]?=some (.ref d)):
  Meets (Builtin.«list.__eq__.loop» ⟨[.ref l,.ref b,rawInt ((0:Nat):Int),rawInt 0],[]⟩)
   (fun A R s=>A.in1.units<cLine/\s.heap.get? l=some {cls:=.type "list",data:=.seq items n}/\s.heap.get? b=some {cls:=.type "list",data:=.seq items2 n2}/\Is2 s.heap c p/\Is2 s.heap d q/\R (.ok (.ret (.bool (ltP p q)))) s):=by
 intro prog w A R s h;obtain⟨hp,g,dd,tk,os⟩:=s;obtain⟨hu,hl,hb,hc,hd,h⟩:=h
 wp_walk using vz hl,vz hb
 have hi1:items[((0:Nat):Int).toNat]?=some (.ref c):=h1;have hi2:items2[((0:Nat):Int).toNat]?=some (.ref d):=h2;rw[hi1,hi2];refine tN (kM hu hc hd ?_);rw[tQ ne]
 wp_walk using vz hl,vz hb
 rw[hi1,hi2];refine tN (nU hu hc hd ?_)
 wp_walk
 exact h
theorem nV(l:Addr)(items:Array Value)(n:Nat)(self:∀v:Value,(v==v)=true)(k:Nat):
  ∀i:Nat,items.size-i=k->Meets (Builtin.«list.__eq__.loop» ⟨[.ref l,.ref l,rawInt i,rawInt 0],[]⟩)
   (fun _ R s=>s.heap.get? l=some {cls:=.type "list",data:=.seq items n}/\R (.ok (.ret (.bool false))) s):=by
 induction k with
 |zero=>
  intro i hk prog w A R s h;obtain⟨hp,g,d,tk,os⟩:=s;obtain⟨hl,h⟩:=h
  wp_walk using vz hl
  have hi1:items[((i:Nat):Int).toNat]?=none:=by simp;omega
  rw[hi1]
  wp_walk using vz hl
  show R (.ok (.ret (.bool (decide (items.size<items.size))))) _;rw[tQ (Nat.lt_irrefl _)];exact h
 |succ k ih=>
  intro i hk prog w A R s h;obtain⟨hp,g,d,tk,os⟩:=s;obtain⟨hl,h⟩:=h
  wp_walk using vz hl
  have hlt:i<items.size:=by omega
  have hi1:items[((i:Nat):Int).toNat]?=some items[i]:=by simp[hlt]
  have hc:((i:Int)+1)=((i+1:Nat):Int):=by push_cast;rfl
  rw[hi1];refine tN (j7 (self _) ?_)
  wp_walk
  rw[hc]
  exact⟨plainId_quiet vt _,codeAny_builtin MeetsSeq3.entry_eq_loop (by
   rw[Around.under_plainId vt _]
   exact ih (i+1) (by omega) prog w A R _ ⟨hl,h⟩)⟩
theorem pS(l b:Addr)(items items2:Array Value)(n n2:Nat)(c d:Addr)(p q:Int×Int)(h1:items[0]?=some (.ref c))(h2:items2[0]?=some (.ref d))(hs:p=q->l=b)(self:∀v:Value,(v==v)=true):
  Meets (Builtin.«list.__lt__» ⟨[.ref l,.ref b],[]⟩)
   (fun A R s=>A.in1.units<cLine/\s.heap.get? l=some {cls:=.type "list",data:=.seq items n}/\s.heap.get? b=some {cls:=.type "list",data:=.seq items2 n2}/\Is2 s.heap c p/\Is2 s.heap d q/\R (.ok (.ret (.bool (ltP p q)))) s):=by
 intro prog w A R s h;obtain⟨hp,g,dd,tk,os⟩:=s;obtain⟨hu,hl,hb,hc,hd,h⟩:=h;have f3:=AutoSeq1.sub_list_list
 wp_walk using vz hl,vz hb
 by_cases e:p=q
 ·obtain rfl:=hs e;rw[hl]at hb;cases hb;have e2:ltP p q=false:=by
   rw[e];unfold ltP;rw[tQ (Int.lt_irrefl _),tQ (Int.lt_irrefl _),vh];rfl
  rw[e2]at h
  exact⟨plainId_quiet vt _,codeAny_builtin MeetsSeq3.entry_eq_loop (by
   rw[Around.under_plainId vt _]
   exact nV l items n self _ 0 rfl prog w A R _ ⟨hl,h⟩)⟩
 ·exact⟨plainId_quiet vt _,codeAny_builtin MeetsSeq3.entry_eq_loop (by
   rw[Around.under_plainId vt _]
   exact nW l b items items2 n n2 c d p q e h1 h2 prog w A R _ ⟨hu,hl,hb,hc,hd,h⟩)⟩
end
section
variable{prog:Program}{w:World}{A:Around}{E:Value->Shared->Prop}{s:Shared}
theorem jm.ty{a:Addr}{p:Int×Int}(h:jm s.heap a p):s.TypeIs (.ref a) "list":=by obtain⟨its,n,b,h1,_⟩:=h;exact⟨_,h1,rfl⟩
theorem sy{a b:Addr}{p r:Int×Int}{Q:Bool->Shared->Prop}(hu:A.units+8<cLine)(ha:jm s.heap a p)(hb:jm s.heap b r)(hs:p=r->a=b)(self:∀v:Value,(v==v)=true)(q:Q (ltP p r) s):wpAny (model prog w) A (keyLt' oneType' (.ref a) (.ref b)) Q E s:=by have ta:=ha.ty;obtain⟨its,n,c,e1,e2,e3⟩:=ha;obtain⟨its',n',d,f1,f2,f3⟩:=hb;rw[keyLt'_oneType,oneLt'_eq];simp only[if_true];refine tN (wpAny_cRoomFor_or (.inr (by omega)) ?_);refine tN (wpAny_callSpecialIfBound?_slot ta F.slot_list_lt (call_meets F.slot_list_lt ta F.entry_list_lt (F.args_list_lt_2 _ _) (pS a b its its' n n' c d p r e2 f2 hs self) ⟨by simp;omega,e1,f1,e3,f3,?_⟩));exact vy q
end
noncomputable abbrev AP:=List (Addr×(Int×Int))
noncomputable def ptN(p:Int×Int):Int:=p.1*16+p.2
def mE(p:Int×Int):Prop:=(0<=p.1/\p.1<16)/\(0<=p.2/\p.2<16)
theorem pP{p q:Int×Int}(hp:mE p)(hq:mE q):ltP p q=decide (ptN p<ptN q):=by obtain⟨a,b⟩:=p;obtain⟨a',b'⟩:=q;obtain⟨h1,h2⟩:=hp;obtain⟨k1,k2⟩:=hq;have h1:0<=a/\a<16:=h1;have h2:0<=b/\b<16:=h2;have k1:0<=a'/\a'<16:=k1;have k2:0<=b'/\b'<16:=k2;show(decide (a<a')||(decide (a=a')&&decide (b<b')))=decide (a*16+b<a'*16+b');rw[uT];simp only[Bool.or_eq_true,va,uE];constructor<;>intro h<;>omega
noncomputable def qU(zs:AP)(a:Addr):Int:=((zs.find? fun z=>decide (z.1=a)).map fun z=>ptN z.2).getD 0
def qq(zs:AP):Prop:=∀z∈zs,∀y∈zs,z.1=y.1->z.2=y.2
theorem iQ{zs:AP}(h:qq zs){z:Addr×(Int×Int)}(hz:z∈zs):qU zs z.1=ptN z.2:=by
 unfold qU;cases e:zs.find? fun y=>decide (y.1=z.1)with
 |none=>exact absurd (List.find?_eq_none.mp e z hz) (by simp)
 |some y=>
  have e1:y.1=z.1:=by have:=List.find?_some e;simpa using this
  exact congrArg ptN (h y (List.mem_of_find?_eq_some e) z hz e1)
noncomputable abbrev n8(zs:AP):KN where
 kn:=fun p=>match p.1 with| .ref a=>qU zs a|_=>0
 isK:=fun p=>∃z∈zs,p=(.ref z.1,.ref z.1)
 kd:=oneType'
theorem rd{zs:AP}(nd:(zs.map (·.2)).Nodup):∀z∈zs,∀y∈zs,z.2=y.2->z.1=y.1:=by
 induction zs with
 |nil=>intro z h;cases h
 |cons r l ih=>
  intro z h1 y h2 e;rw[uO,List.nodup_cons]at nd;rcases uy.mp h1 with a|a
  ·rcases uy.mp h2 with b|b
   ·rw[a,b]
   ·exact absurd (List.mem_map_of_mem (f:=(·.2)) b) (by rw[<-e,a];exact nd.1)
  ·rcases uy.mp h2 with b|b
   ·exact absurd (List.mem_map_of_mem (f:=(·.2)) a) (by rw[e,b];exact nd.1)
   ·exact ih nd.2 z a y b e
section
variable{prog:Program}{w:World}{A:Around}{E:Value->Shared->Prop}{s:Shared}
theorem pQ{zs:AP}(hu:A.units+8<cLine)(hz:∀z∈zs,jm s.heap z.1 z.2)(ok:∀z∈zs,mE z.2)(nd:(zs.map (·.2)).Nodup)(one:qq zs): @gM prog w A E s (n8 zs):=by letI:=n8 zs;refine⟨fun {st x y Q} hk hx hy h=>?_⟩;obtain⟨z,mz,rfl⟩:=hx;obtain⟨y,my,rfl⟩:=hy;rw[lt'_eq];refine tP (wpS_get ?_);rw[hk];refine tP (wpS_lift (wpAny_attempt (sy hu (hz z mz) (hz y my) (fun e=>rd nd z mz y my e) (fun v=>by simp) ⟨rfl,?_⟩)));refine tT ?_;have e1:KN.kn (.ref z.1,.ref z.1)=ptN z.2:=iQ one mz;have e2:KN.kn (.ref y.1,.ref y.1)=ptN y.2:=iQ one my;rw[e1,e2,<-pP (ok z mz) (ok y my)]at h;exact h
noncomputable def aE(zs:AP):List Value:=zs.map fun z=>.ref z.1
theorem pZ{zs:AP}(hz:∀z∈zs,jm s.heap z.1 z.2)(h2:zs≠[]){Q:SortKind->Shared->Prop}(q:Q oneType' s):wpAny (model prog w) A (keyKind' (aE zs).toArray) Q E s:=by
 have ty:∀v∈aE zs,s.TypeIs v "list":=fun v hv=>by obtain⟨z,mz,rfl⟩:=uu.mp hv;exact(hz z mz).ty
 rw[keyKind'_eq,List.mapM_toArray,<-bind_pure_comp];refine tN (tN (eO (g:=fun _=>(none:Option Value)) (fun v hv {R} r=>?_) (tO ?_)))
 ·rw[firstT];refine tN (wpAny_typeOf (T:="list") (ty v hv) ?_);rw[tU (by decide)];exact tO r
 have c1:¬((aE zs).map fun _=>(none:Option Value)).toArray.all (·.isSome)=true:=by
  cases zs with
  |nil=>exact absurd rfl h2
  |cons z zs=>simp[aE]
 rw[tV c1];have c2:¬((((aE zs).map fun _=>(none:Option Value)).toArray[0]?.bind id).isSome=true):=by
  cases zs with
  |nil=>exact absurd rfl h2
  |cons z zs=>simp[aE]
 rw[tV c2];rw[oneTypeOnly'_eq,List.mapM_toArray,<-bind_pure_comp];refine tN (tN (tN (eO (f:=typeOf) (g:=fun _=>Value.type "list") (fun v hv {R} r=>wpAny_typeOf (ty v hv) r) (tO ?_))));have hl:((aE zs).map fun _=>Value.type "list").toArray[0]?=some (Value.type "list"):=by
  cases zs with
  |nil=>exact absurd rfl h2
  |cons z zs=>simp[aE]
 rw[hl];have ha:((aE zs).map fun _=>Value.type "list").toArray.all (·==Value.type "list")=true:=by simp only[List.all_toArray,List.all_map,List.all_eq_true];intro _ _;rfl
 refine tO ?_;rw[ha];exact tO q
theorem oZ{a:Addr}{zs:AP}{n:Nat}{P:PySem.Fin->Shared->Prop}(ho:s.heap.get? a=some (seqObj "list" (aE zs).toArray n))(hu:A.units+8<cLine)(hz:∀z∈zs,jm s.heap z.1 z.2)(nea:∀z∈zs,z.1≠a)(ok:∀z∈zs,mE z.2)(nd:(zs.map (·.2)).Nodup)(one:qq zs)(h64:zs.length<1000)
  (h:∀ys:AP,ys.Perm zs->(ys.map fun z=>ptN z.2).Pairwise (·<=·)->P (.done (.ret .none)) {s with heap:=sortedHeap s.heap a (aE zs) (aE ys).toArray}):
  wpAny (model prog w) A (Builtin.«list.sort» ⟨[.ref a],[]⟩) P E s:=by
 rw[list_sort_plain];have ha:a<s.heap.objs.size:=t9 ho;have lz:(aE zs).length=zs.length:=tX ..;refine tN (listItems_at ho rfl ?_);refine tN (listUpdate_at ho rfl ?_ (by rw[uh,lz,vm];omega) (uJ _));obtain⟨e1,ho1⟩:∃e1,(s.heap.update a (Obj.mapSeq fun _=> #[])).get? a=some (seqObj "list" #[] e1):=⟨_,get?_update_seq ho (fun _=> #[])⟩;refine tN (seqEpoch_at ho1 rfl ?_);refine tN (wpAny_newTuple ?_ (by show(aE zs).length<=_;rw[lz,vm];omega));refine tN (wpAny_newList ?_ (uJ _));refine wpAny_holding ?_;have ho6:(((s.heap.update a (Obj.mapSeq fun _=> #[])).push (seqObj "tuple" (aE zs).toArray 0)).push (seqObj "list" #[] 0)).get? a=some (seqObj "list" #[] e1):=tR _ (tR _ ho1);have hz6:∀z∈zs,jm (((s.heap.update a (Obj.mapSeq fun _=> #[])).push (seqObj "tuple" (aE zs).toArray 0)).push (seqObj "list" #[] 0)) z.1 z.2:=fun z mz=>by have kp:∀b o,b≠a->s.heap.get? b=some o->(((s.heap.update a (Obj.mapSeq fun _=> #[])).push (seqObj "tuple" (aE zs).toArray 0)).push (seqObj "list" #[] 0)).get? b=some o:=fun b o na f1=>tR _ (tR _ (((Heap.SameBut.update s.heap a _).2 b na).trans f1));obtain⟨its,n',b,f1,f2,o,n2,t,u,f3,f4,f5⟩:=hz z mz;refine⟨its,n',b,kp _ _ (nea z mz) f1,f2,o,n2,t,u,kp _ _ (fun w=>?_) f3,f4,f5⟩;rw[w,ho]at f3;cases f3;have f4':Value.type "list"=Value.type "tuple":=f4;exact absurd f4' (by decide)
 show wpAny (model prog w) A _ P E {s with heap:=((s.heap.update a (Obj.mapSeq fun _=> #[])).push (seqObj "tuple" (aE zs).toArray 0)).push (seqObj "list" #[] 0)};dsimp only;have pz:(pairsOf (aE zs)).toList=zs.map fun z=>((.ref z.1,.ref z.1):Keyed):=by rw[pairsOf_toList];unfold aE;rw[List.zip_map']
 have outL:∀{ar:Array Keyed}{ys:AP},ar.toList=ys.map (fun z=>((.ref z.1,.ref z.1):Keyed))->ar.map (·.2)=(aE ys).toArray:=fun {ar ys} e=>by apply Array.ext';rw[Array.toList_map,e,uX];rfl
 by_cases h2:(aE zs).toArray.size<2
 ·rw[tU h2,tU h2];refine tN (tO ?_);rw[StateT.run_pure];refine tN (tO ?_);dsimp only;refine tN (seqEpoch_at ho6 rfl ?_);have eo:=outL (ar:=pairsOf (aE zs)) (ys:=zs) pz;refine tN (listUpdate_at ho6 rfl ?_ (uJ _) (by show((pairsOf (aE zs)).map (·.2)).size<=_;rw[eo,uh,lz,vm];omega));simp only[bne_self_eq_false,uH,if_false];refine tO ?_;show P _ {s with heap:=(((s.heap.update a (Obj.mapSeq fun _=> #[])).push (seqObj "tuple" (aE zs).toArray 0)).push (seqObj "list" #[] 0)).update a (Obj.mapSeq fun _=>(pairsOf (aE zs)).map (·.2))};rw[eo];refine h zs (.refl _) ?_;rw[uh,lz]at h2
  match zs,h2 with
  | [],_=>exact .nil
  | [z],_=>exact vu _ _
 ·rw[tV h2,tV h2];rw[uh,lz]at h2;refine tN (pZ hz6 (fun w=>h2 (by rw[w];decide)) ?_);letI:=n8 zs;haveI:gM prog w A E {s with heap:=((s.heap.update a (Obj.mapSeq fun _=> #[])).push (seqObj "tuple" (aE zs).toArray 0)).push (seqObj "list" #[] 0)}:=pQ hu hz6 ok nd one;refine tN (vc (fF (a₀:=pairsOf (aE zs)) (st:=SortSt.mk' (oneType') ((aE zs).toArray.zip (aE zs).toArray) #[] 7 none) (Q:=fun _ st'=>(arrOf st').Perm (pairsOf (aE zs))/\failedOf st'=none/\SortedTo (arrOf st') (pairsOf (aE zs)).size) (fun p hp=>?_) (Array.Perm.refl _) rfl rfl rfl (by rw[pairsOf_size,lz];omega) fun st' q1 q2 q3=>⟨q1,q2,q3⟩) ?_ fun _ _ e=>e)
  ·rw[pz]at hp;obtain⟨z,mz,rfl⟩:=uu.mp hp;exact⟨z,mz,rfl⟩
  rintro⟨⟨⟩,st'⟩ s' ⟨rfl,hp,hf,hs⟩;dsimp only;obtain⟨ys,py,ey⟩:=ff (f:=fun z:Addr×(Int×Int)=>((.ref z.1,.ref z.1):Keyed)) (zs:=zs) (l:=(arrOf st').toList) (by rw[<-pz];exact vD.mp hp);have eo:=outL ey;have ly:(aE ys).length=zs.length:=by rw[aE,tX];exact py.length_eq
  refine tN (seqEpoch_at ho6 rfl ?_);refine tN (listUpdate_at ho6 rfl ?_ (uJ _) (by show((arrOf st').map (·.2)).size<=_;rw[eo,uh,ly,vm];omega));rw[hf];simp only[bne_self_eq_false,uH,if_false];refine tO ?_;rw[eo];refine h ys py ?_;rw[uY];intro i j hi hj hij;rw[tX]at hi hj;have sz:(pairsOf (aE zs)).size=ys.length:=by rw[pairsOf_size,lz];exact py.length_eq.symm
  have le:=hs i j (Nat.le_of_lt hij) (by rw[sz];exact hj);have at_:∀k(hk:k<ys.length),K (arrOf st') k=ptN (ys[k]'hk).2:=fun k hk=>by unfold K;rw[<-ug,ey,uV,ui hk];exact iQ one (py.mem_iff.mp (List.getElem_mem hk))
  rw[at_ i hi,at_ j hj]at le;rw[List.getElem_map,List.getElem_map];exact le
end
section
variable{X:Cx}
def PlA(K:Frag)(H:Hp)(b:Addr)(p:Int×Int):Prop:=∃v rest,H b=some (.lst (.ref v::rest))/\SqT K H v [.int p.1,.int p.2]
theorem kQ(hu:X.A.units+64<cLine):dJ X (.builtin "sorted") (fun xs H Q=>∃(p:Addr)(zs:AP),xs=[.ref p]/\SqL X.K H p (zs.map fun z=>V.ref z.1)/\(∀z∈zs,PlA X.K H z.1 z.2)/\(∀z∈zs,mE z.2)/\(zs.map (·.2)).Nodup/\zs.length<1000/\
  ∀(l:Addr)(ys:AP),H l=none->ys.Perm zs->(ys.map fun z=>ptN z.2).Pairwise (·<=·)->Q (.ref l) (upd H l (.lst (ys.map fun z=>V.ref z.1)))):=by
 intro pins s σ H xs us Q I r h;obtain⟨p,zs,rfl,hx,hz,ok,nd,h64,q⟩:=h;obtain⟨u,rfl,ru⟩:=vals1 r;cases ru;obtain⟨vs,rv,pl,hzl⟩:=I.list hx;have refs:∀{ys:AP}{us:List Value},Vals (ys.map fun z=>V.ref z.1) us->us=aE ys:=by
  intro ys
  induction ys with
  |nil=>intro us r;cases r;rfl
  |cons z ys ih=>
   intro us r;rw[uO]at r;cases r with
   |cons a b=>cases a;rw[ih b];rfl
 have valsR:∀ys:AP,Vals (ys.map fun z=>V.ref z.1) (aE ys):=by
  intro ys
  induction ys with
  |nil=>exact .nil
  |cons z ys ih=>exact .cons rfl ih
 obtain rfl:=refs rv;have two:∀{b:Addr}{x y:Int},SqT X.K H b [.int x,.int y]->Is2 s.heap b (x,y):=fun {b x y} hb=>by obtain⟨its,rv',⟨o,e1,e2,n,e3⟩,_⟩:=I.tuple hb;obtain⟨v1,v2,rfl,⟨t,rfl⟩,⟨t',rfl⟩⟩:=vals2 rv';exact⟨o,n,t,t',e1,e2,e3⟩
 have tn:∀z∈zs,jm s.heap z.1 z.2:=fun z mz=>by
  obtain⟨v,rest,h1,h2⟩:=hz z mz;obtain⟨_,its,n,rv',_,e1⟩:=I.lstM h1;cases rv' with
  |cons a b=>cases a;exact⟨_,n,v,e1,rfl,two h2⟩
 have one:qq zs:=fun z mz y my e=>by obtain⟨v,rest,h1,h2⟩:=hz z mz;obtain⟨v',rest',k1,k2⟩:=hz y my;rw[e,k1]at h1;cases h1;have b:=I.tuple_inj h2 k2;exact Prod.ext (V.int.inj (uD b).1) (V.int.inj (uD (uD b).2).1)
 have lz:(aE zs).length=zs.length:=tX ..;refine Calls.call_function_entry kind_sorted plain_sorted entry_sorted (args_sorted1 _) ?_;unfold Builtin.«sorted»;refine tN (m:=checkCount "sorted" 1 1 _) (tO ?_);refine tN (collect_list pl.isList ?_ (by rw[lz,vm];omega));refine tN (wpAny_newList ?_ (by show(aE zs).length<=_;rw[lz,vm];omega));have hsz:((s.heap.push (seqObj "list" #[] 0)).update s.heap.objs.size (Obj.mapSeq (·++(aE zs).toArray))).objs.size=s.heap.objs.size+1:=by rw[Heap.size_update,size_push']
 have hoL:(((s.heap.push (seqObj "list" #[] 0)).update s.heap.objs.size (Obj.mapSeq (·++(aE zs).toArray))).push (seqObj "list" (aE zs).toArray 0)).get? (s.heap.objs.size+1)=some (seqObj "list" (aE zs).toArray 0):=by rw[<-hsz];exact um _ rfl
 have kp:∀b o,s.heap.get? b=some o->(((s.heap.push (seqObj "list" #[] 0)).update s.heap.objs.size (Obj.mapSeq (·++(aE zs).toArray))).push (seqObj "list" (aE zs).toArray 0)).get? b=some o:=fun b o e=>tR _ (((Heap.SameBut.update _ s.heap.objs.size _).2 b (uz (t9 e))).trans (tR _ e))
 show wpAny _ _ _ _ _ {s with heap:=((s.heap.push (seqObj "list" #[] 0)).update s.heap.objs.size (Obj.mapSeq (·++(aE zs).toArray))).push (seqObj "list" (aE zs).toArray 0)};rw[hsz];refine tN (wpAny_holding (wpAny_call_entry slot_list_sort ⟨_,hoL,rfl⟩ entry_list_sort (oZ hoL (by simp;omega) (fun z mz=>?_) (fun z mz=>?_) ok nd one h64 fun ys py so=>⟨_,rfl,?_⟩) (args_list_sort _)))
 ·obtain⟨its,n,b,f1,f2,o,n2,t,u,f3,f4,f5⟩:=tn z mz;exact⟨its,n,b,kp _ _ f1,f2,o,n2,t,u,kp _ _ f3,f4,f5⟩
 ·obtain⟨its,n,b,f1,_⟩:=tn z mz;exact uz (Nat.lt_succ_of_lt (t9 f1))
 refine tO ⟨_,rfl,?_⟩;obtain⟨e,he⟩:=sortedAll_at s.heap (aE zs) (aE ys).toArray;have fr:H (s.heap.objs.size+1)=none:=I.hok.fresh (Nat.le_succ _);have ly:=py.length_eq;exact⟨.ref _,_,I.track (t':=s.toks) (n:=e) (its:=aE ys) (I.fpOk (Nat.le_succ _) fr) (fun b o _ z=>sortedAll_old z) (valsR ys) (by rw[tX,vm];omega) he,rfl,q _ ys fr py so⟩
end
end LT
namespace L2
open PySem PySem.Spec PyProof.Rows
section
variable{P:Program}{w:World}
theorem aX.keepT{h h':Heap}{c:Col}{us:List Value}(k:∀b ob,ob.cls=.type "tuple"->h.get? b=some ob->h'.get? b=some ob)(p:aX P w h c us):aX P w h' c us:=by
 induction p with
 |nil=>exact .nil
 |cons p1 _ ih=>obtain⟨o,its,n,h1,h2,h3,h4⟩:=p1;exact .cons ⟨o,its,n,k _ _ h2 h1,h2,h3,h4⟩ ih
theorem bB.keepT{h h':Heap}{c:Col}{a:Addr}(k:∀b ob,ob.cls=.type "tuple"->h.get? b=some ob->h'.get? b=some ob)(p:bB P w h c a):bB P w h' c a:=by obtain⟨l,ob,its,n,p1,p2,p3,p4⟩:=p;exact⟨l,ob,its,n,k _ _ p2 p1,p2,p3,p4.keepT k⟩
theorem jd{h h':Heap}{D:Addr}{xs:List (Col×Addr×Value)}(k:∀b ob,(b=D\/ob.cls=.type "tuple")->h.get? b=some ob->h'.get? b=some ob)(hm:h.DictOfH (bJ P w) D xs):h'.DictOfH (bJ P w) D xs:=by obtain⟨o,es,ep,h1,h2,h3,h4,h5,h6⟩:=hm;exact⟨o,es,ep,k _ _ (.inl rfl) h1,h2,h3,h4,fun x hx=>bB.keepT (fun b ob e=>k b ob (.inr e)) (h5 x hx),h6⟩
noncomputable def stH(xs:List (Col×Addr×Value)):List (Col×Addr×Value):=xs.foldl (fun a x=>storedH a x.1 x.2.1 x.2.2) []
theorem lC:∀(xs:List (Col×Addr×Value)),(stH xs).length<=xs.length:=by
 have key:∀(xs a:List (Col×Addr×Value)),(xs.foldl (fun a x=>storedH a x.1 x.2.1 x.2.2) a).length<=a.length+xs.length:=by
  intro xs
  induction xs with
  |nil=>exact fun a=>uc _
  |cons x xs ih=>
   intro a;have h1:=ih (storedH a x.1 x.2.1 x.2.2);have h2:(storedH a x.1 x.2.1 x.2.2).length<=a.length+1:=by unfold storedH;split<;>simp
   show(xs.foldl _ (storedH a x.1 x.2.1 x.2.2)).length<=_;rw[List.length_cons];omega
 intro xs;have:=key xs [];rw[List.length_nil]at this;unfold stH;omega
end
section
variable{prog:Program}{w:World}{A:Around}{E:Value->Shared->Prop}{s:Shared}
theorem fh{R:Result->Shared->Prop}(hh:A.handled=none)(hu:A.units+8<cLine){a it D:Addr}{its:Array Value}{kvs:List (Col×Addr×Value)}(hlen:its.size=kvs.length)(hz:kvs.length<=sizeLine)(hne1:a≠it)(hne2:D≠it)(hne3:a≠D)
  (hsD:∀o,s.heap.get? D=some o->o.cls≠ .type "tuple") (hsI:∀o,s.heap.get? it=some o->o.cls≠ .type "tuple")
  (hp:∀(i:Nat)(k:Col)(b:Addr)(u:Value),kvs[i]?=some (k,b,u)->∃p,its[i]?=some (.ref p)/\IsTup s.heap p #[.ref b,u]/\bB prog w s.heap k b):
  ∀(m i:Nat)(s1:Shared),kvs.length-i=m->i<=kvs.length->s1.heap.IsListIter it a i->s1.heap.IsList a its->s1.heap.DictOfH (bJ prog w) D (stH (kvs.take i))->
  (∀b ob,b≠D->b≠it->s.heap.get? b=some ob->s1.heap.get? b=some ob)->
  (∀h' tk,h'.DictOfH (bJ prog w) D (stH kvs)->(∀b ob,b≠D->b≠it->s.heap.get? b=some ob->h'.get? b=some ob)->R (.ok (.ret .none)) {s1 with heap:=h',toks:=tk})->
  codeAny (model prog w) A (.builtin "dict.update.loop" ⟨[.ref D,.ref it,rawInt i,.none],[]⟩) R s1:=by
 intro m
 induction m with
 |zero=>
  intro i s1 hk hi hit ht hD keep hR;have hin:i=kvs.length:=by omega
  subst hin;refine codeAny_builtin F.cV ?_;rw[Around.under_plainId F.br _];show wpAny _ A.in1 (pyNext (.ref it)>>= _) _ _ s1;refine tN (wpAny_pyNext_list_end (by simpa using hh) hit ht (by simp[hlen]) fun h' hx=>?_);show wpAny (model prog w) A.in1 (Builtin.Dict.addKeywords D []>>= fun _=>ret Value.none) _ _ _;refine tN (tO (tO ?_));rw[uG]at hD;refine hR h' _ (jd (fun b ob e1 e2=>hx b ob (fun z=>?_) e2) hD) fun b ob h1 h2 e=>hx b ob h2 (keep b ob h1 h2 e);rcases e1 with e1|e1
  ·exact hne2 (e1.symm.trans z)
  ·obtain⟨oi,hoi,hci,_⟩:=hit;rw[z,hoi]at e2;cases e2;rw[hci]at e1;exact absurd e1 (by decide)
 |succ m ih=>
  intro i s1 hk hi hit ht hD keep hR;have hlt:i<kvs.length:=by omega
  obtain⟨⟨k,b0,u⟩,hkv⟩:∃kv,kvs[i]?=some kv:=⟨kvs[i],by simp[hlt]⟩;obtain⟨p,hi1,hp1,hcol⟩:=hp i k b0 u hkv;refine codeAny_builtin F.cV ?_;rw[Around.under_plainId F.br _];show wpAny _ A.in1 (pyNext (.ref it)>>= _) _ _ s1;have hitc:∀o,s1.heap.get? it=some o->o.cls≠ .type "tuple":=fun o ho=>by obtain⟨oi,hoi,hci,_⟩:=hit;rw[hoi]at ho;cases ho;rw[hci];decide
  refine tN (wpAny_pyNext_list_item hit ht hi1 fun h' hit' hs'=>?_);have keep':∀b ob,b≠D->b≠it->s.heap.get? b=some ob->h'.get? b=some ob:=fun b ob h1 h2 e=>(hs'.2 b h2).trans (keep b ob h1 h2 e);obtain⟨po,hpo,hpc,pn,hpd⟩:=hp1;have tup:∀b ob,ob.cls=.type "tuple"->s.heap.get? b=some ob->h'.get? b=some ob:=fun b ob e1 e2=>keep' b ob (fun z=>hsD ob (by rw[<-z];exact e2) e1) (fun z=>hsI ob (by rw[<-z];exact e2) e1) e2;have hpo':=tup p po hpc hpo;have hcol':=hcol.keepT tup
  have hD':h'.DictOfH (bJ prog w) D (stH (kvs.take i)):=jd (fun b ob e1 e2=>(hs'.2 b (fun z=>by
   rcases e1 with e1|e1
   ·exact hne2 (e1.symm.trans z)
   ·exact hitc ob (by rw[<-z];exact e2) e1)).trans e2) hD
  dsimp only;refine tN (wpAny_holding ?_);refine tN (wpAny_tryCatch ?_);unfold Builtin.Dict.pairItems;refine tN (wpAny_typeOf (T:="tuple") ⟨po,hpo',hpc⟩ ?_);rw[tU (by decide)];refine tN (wpAny_seqItems hpo' hpd (tO ?_));show wpAny (model prog w) A.in1 (holding [.ref b0,u] (dictSet D (.ref b0) u)) _ _ _
  refine wpAny_holding (wpAny_dictSet_heap (knd:=bJ prog w) (hsz:=by
   have e1:=lC (kvs.take i);rw[uf]at e1
   omega) (show A.in1.units+3<cLine by simp only[Around.in1_units];omega) hcol' hD' fun h2 hD2 hs2=>?_)
  refine tO ⟨plainId_quiet F.br _,?_⟩;have e2:rawInt (↑i+1)=rawInt ((i+1:Nat):Int):=rfl;rw[e2];refine ih (i+1) _ (by omega) (by omega) ?_ ?_ ?_ (fun b ob h1 h2' e=>(hs2.2 b h1).trans (keep' b ob h1 h2' e)) fun h3 tk3=>hR h3 tk3
  ·obtain⟨oi,hoi,r⟩:=hit';exact⟨oi,(hs2.2 it (Ne.symm hne2)).trans hoi,r⟩
  ·obtain⟨oa,hoa,r⟩:=ht;exact⟨oa,(hs2.2 a hne3).trans ((hs'.2 a hne1).trans hoa),r⟩
  ·have e3:stH (kvs.take (i+1))=storedH (stH (kvs.take i)) k b0 u:=by
    unfold stH;rw[uq,hkv,uw,List.foldl_append];rfl
   rw[e3];exact hD2
theorem fB{Q:Value->Shared->Prop}(hh:A.handled=none)(hu:A.units+20<cLine){a:Addr}{its:Array Value}{n:Nat}{kvs:List (Col×Addr×Value)}(hx:s.heap.get? a=some {cls:=.type "list",data:=.seq its n})(hlen:its.size=kvs.length)(hz:kvs.length<=sizeLine)
  (hp:∀(i:Nat)(k:Col)(b:Addr)(u:Value),kvs[i]?=some (k,b,u)->∃p,its[i]?=some (.ref p)/\IsTup s.heap p #[.ref b,u]/\bB prog w s.heap k b)
  (h:∀h' tk,h'.DictOfH (bJ prog w) s.heap.objs.size (stH kvs)->(∀b ob,s.heap.get? b=some ob->h'.get? b=some ob)->Q (.ref s.heap.objs.size) {s with heap:=h',toks:=tk}):
  wpAny (model prog w) A (call (.type "dict") [.ref a]) Q E s:=by
 refine callType_codes (Q₁:=fun obj s₁=>obj=.ref s.heap.objs.size/\s₁={s with heap:=s.heap.push {cls:=.type "dict",data:=.dict #[]}}) F.kt_called_dict (F.kt_typeCall_dict_1 _) F.entry_dict_init (kt_code_dict_new _ ⟨rfl,rfl⟩) ?_;rintro obj s₁ ⟨rfl,rfl⟩;have hnew:(s.heap.push {cls:=.type "dict",data:=.dict #[]}).DictOfH (bJ prog w) s.heap.objs.size []:=Heap.DictOfH.new s.heap;have hx':=tR {cls:=.type "dict",data:=.dict #[]} hx;refine⟨hnew.typeIs,F.args_dict_init_2 _ _,?_⟩;unfold Builtin.«dict.__init__»;refine tN ?_;unfold Builtin.Dict.selfAndRest;refine tN (wpAny_notOrdered_dict hnew.typeIs ?_);show wpAny _ _ (pure (s.heap.objs.size,[Value.ref a])) _ _ _;refine tO ?_;show wpAny _ _ (Builtin.Dict.updateFrom "dict.__init__" s.heap.objs.size (.ref a) [] .none) _ _ _;unfold Builtin.Dict.updateFrom;refine tN (wpAny_typeOf (T:="list") ⟨_,hx',rfl⟩ ?_);rw[tU (by decide)];refine tN (gD (by simpa using hh) hx' rfl rfl rfl fun h1 t1 k1=>?_);rw[tU (show(none:Option Value).isNone=true from rfl)];refine tN (vN ?_);have ht1:h1.IsList a its:=⟨_,k1 _ _ hx',rfl,n,rfl⟩;refine tN (Flt.iter_list_ ht1 fun s2 e2 _ _ _=>?_);subst e2;obtain⟨ob0,es0,ep0,hob0,hex0,hdd0,_⟩:=id hnew;have hs0:s.heap.objs.size<h1.objs.size:=t9 (k1 _ _ hob0);have ha:=t9 hx;have ne1:a≠h1.objs.size:=uz (Nat.lt_trans ha hs0);have ne2:s.heap.objs.size≠h1.objs.size:=uz hs0;have ne3:a≠s.heap.objs.size:=uz ha;refine tO ⟨plainId_quiet F.br _,?_⟩;have kk:∀b ob,s.heap.get? b=some ob->(h1.push {cls:=.type "list_iterator",data:=.fields #[.ref a,.int 0 0]}).get? b=some ob:=fun b ob e=>tR _ (k1 _ _ (tR _ e));refine fh (s:={s with heap:=h1.push {cls:=.type "list_iterator",data:=.fields #[.ref a,.int 0 0]}}) (by simpa using hh) (by simp;omega) hlen hz ne1 ne2 ne3 ?_ ?_ ?_ kvs.length 0 _ rfl (uJ _) ⟨_,um _ rfl,rfl,rfl⟩ (ht1.push _) ?_ (fun b ob _ _ e=>e) fun h' tk hD keep=>⟨rfl,h h' tk hD fun b ob e=>?_⟩
 ·intro o ho;have:=tR {cls:=.type "list_iterator",data:=.fields #[.ref a,.int 0 0]} (k1 _ _ hob0);rw[this]at ho;cases ho;rw[hex0.1];decide
 ·intro o ho;rw[um _ rfl]at ho;cases ho;show Value.type "list_iterator"≠Value.type "tuple";decide
 ·intro i k b u e;obtain⟨p,h1',h2,h3⟩:=hp i k b u e;exact⟨p,h1',h2.keeps kk,h3.keepT fun b ob _ e=>kk b ob e⟩
 ·exact jd (fun b ob _ e=>tR _ (k1 _ _ e)) hnew
 ·have lb:=t9 e;exact keep b ob (uz lb) (uz (Nat.lt_trans lb hs0)) (kk b ob e)
end
section
variable{X:Cx}
noncomputable def mkT(kvs:CT):CT:=kvs.foldl (fun T x=>cQ T x.1 x.2.1 x.2.2) []
theorem qB{kvs:CT}{vs:List (Col×Addr×Value)}(h:CTv kvs vs):CTv (mkT kvs) (stH vs):=by
 have key:∀{kvs:CT}{vs:List (Col×Addr×Value)},CTv kvs vs->∀{T:CT}{us:List (Col×Addr×Value)},CTv T us->CTv (kvs.foldl (fun T x=>cQ T x.1 x.2.1 x.2.2) T) (vs.foldl (fun a x=>storedH a x.1 x.2.1 x.2.2) us):=by
  intro kvs vs h
  induction h with
  |nil=>exact fun r=>r
  | @cons x y _ _ a _ ih=>intro T us r;obtain⟨a1,a2,a3⟩:=a;have:=oB (c:=x.1) (b:=x.2.1) a3 r;rw[List.foldl_cons,List.foldl_cons,<-a1,<-a2];exact ih this
 exact key h .nil
theorem pM{kvs:CT}:∀t∈mkT kvs,∃x∈kvs,t.2.1=x.2.1/\t.1=x.1:=by
 have key:∀(kvs T:CT)(S:CT),(∀t∈T,∃x∈S,t.2.1=x.2.1/\t.1=x.1)->(∀x∈kvs,x∈S)->∀t∈kvs.foldl (fun T x=>cQ T x.1 x.2.1 x.2.2) T,∃x∈S,t.2.1=x.2.1/\t.1=x.1:=by
  intro kvs
  induction kvs with
  |nil=>exact fun T S h _=>h
  |cons x kvs ih=>
   intro T S h hs;refine ih (cQ T x.1 x.2.1 x.2.2) S (fun t ht=>?_) fun y hy=>hs y (t6 _ hy);unfold cQ at ht;split at ht
   ·obtain⟨u,hu,rfl⟩:=uu.mp ht;obtain⟨z,hz,e1,e2⟩:=h u hu;split
    ·exact⟨z,hz,e1,e2⟩
    ·exact⟨z,hz,e1,e2⟩
   ·rcases ub.mp ht with y|y
    ·exact h t y
    ·rw[ua.mp y];exact⟨x,hs x (tY ..),rfl,rfl⟩
 exact key kvs [] kvs (fun t ht=>nomatch ht) fun x hx=>hx
def qN(P:Program)(w:World)(K:Frag):List V->Hp->VK->Prop:=fun xs H Q=>∃a vs kvs,xs=[.ref a]/\H a=some (.lst vs)/\kvs.length<=1000/\
 Paired (fun v (kv:Col×Addr×V)=>∃r,v=.ref r/\SqT K H r [.ref kv.2.1,kv.2.2]/\dO K H kv.2.1 kv.1) vs kvs/\∀d o,H d=none->jo P w o (mkT kvs)->(d==sysModules)=false->Q (.ref d) (upd H d (bY d o))
theorem kR(hc:X.calm=true)(hu:X.A.units+64<cLine):dJ X (.type "dict") (qN X.prog X.w X.K):=by
 intro pins s σ H xs us Q I r h;obtain⟨a,vs,kvs,rfl,ha,hz,pr,q⟩:=h;obtain⟨u,rfl,rx⟩:=vals1 r;cases rx;obtain⟨_,its,n,rv,_,ho⟩:=I.lstM ha;have key:∀{vs:List V}{us:List Value}{kvs:CT},Vals vs us->Paired (fun v (kv:Col×Addr×V)=>∃r,v=.ref r/\SqT X.K H r [.ref kv.2.1,kv.2.2]/\dO X.K H kv.2.1 kv.1) vs kvs->
   ∃ws:List (Col×Addr×Value),CTv kvs ws/\us.length=ws.length/\∀(i:Nat)(k:Col)(b:Addr)(u:Value),ws[i]?=some (k,b,u)->∃p,us[i]?=some (.ref p)/\IsTup s.heap p #[.ref b,u]/\bB X.prog X.w s.heap k b:=by
  intro vs us kvs rv pr
  induction pr generalizing us with
  |nil=>have:=rv.zero;subst this;exact⟨[],.nil,rfl,fun i k b u e=>by simp at e⟩
  | @cons v kv vs' kvs' hv pt ih=>
   obtain⟨r,rfl,hr,hcv⟩:=hv;cases rv with
   | @cons _ w1 _ us' r1 r2=>
    cases r1;obtain⟨ws,k1,k2,k3⟩:=ih r2;obtain⟨its2,rv2,pl2,_⟩:=I.tuple hr;obtain⟨y1,y2,rfl,q1,q2⟩:=vals2 rv2;cases q1;refine⟨(kv.1,kv.2.1,y2)::ws,.cons ⟨rfl,rfl,q2⟩ k1,by simp[k2],fun i k b u e=>?_⟩;cases i with
    |zero=>simp at e;obtain⟨rfl,rfl,rfl⟩:=e;exact⟨r,rfl,pl2,hcv.is I⟩
    |succ i=>obtain⟨p,e1,e2⟩:=k3 i k b u (by simpa using e);exact⟨p,by simpa using e1,e2⟩
 obtain⟨ws,k1,k2,k3⟩:=key rv pr;have lk:=gF k1;have sl:(1000:Nat)<=sizeLine:=by decide
 refine fB (kvs:=ws) (I.ok.hd hc) (by omega) ho (by simpa using k2) (by omega) (fun i k b u e=>?_) fun h' tk hD keep=>?_
 ·obtain⟨p,e1,e2⟩:=k3 i k b u e;exact⟨p,by simpa using e1,e2⟩
 ·obtain⟨ob,es,ep,e1,e2,e3,e4,e5,e6⟩:=hD;have hl:=lC ws;have lm:=gF (qB k1);refine⟨.ref s.heap.objs.size,_,I.laid (t':=tk) (o:=bY s.heap.objs.size ob) keep (uc _) (iW e1),rfl,q _ ob (I.hok.fresh (uc _)) ⟨e2,by omega,es,ep,_,e3,e4,qB k1,e6⟩ (beq_eq_false_iff_ne.mpr (Ne.symm (uz I.big)))⟩
theorem nH{i o:Expr}{td ty:TE}(hu:X.A.units+64<cLine)(hi:PE X i ty)(ho:PE X o td):PC X .In i o (qJ X.prog X.w X.K false ty td):=by
 intro pins s σ H Q I h;refine thn (hi pins s σ H _ I h) fun iv s1 hPz=>L2.ep3 hPz fun y H1 I1 ry q1=>thn (ho pins s1 σ H1 _ I1 q1) fun u s2 hPz=>?_;obtain⟨x,H2,I2,rx,d,ob,T,b,c,ex,hc,ey,hb,q2⟩:=hPz;subst ex ey;cases rx;cases ry;obtain⟨h1,h2,h3,h4⟩:=hc;obtain⟨vs,rv,DD⟩:=h2.dict I2 h1 h4;refine wpAny_in_heap (show X.A.in1.units+3<cLine by simp only[Around.in1_units];omega) (hb.is I2) h3 DD ?_;have e:(atKey vs c).isSome=(atT T c).isSome:=by rcases qC (c:=c) rv with⟨z1,z2⟩|⟨v',p,z1,z2,_⟩<;>rw[z1,z2]<;>rfl
 rw[e];exact⟨.bl _,H2,I2.tok _,rfl,q2⟩
theorem kB{P:Program}{w:World}{K:Frag}{i o:Expr}{td ty:TE}(h1:X.prog=P)(h2:X.w=w)(h3:X.K=K)(hu:X.A.units+64<cLine)(hi:PE X i ty)(ho:PE X o td):PC X .NotIn i o (qJ P w K true ty td):=by subst h1 h2 h3;exact ia hu hi ho
end
end L2
namespace L2
open PySem PySem.Spec PyProof.Rows LM
open LT (cR sdN gO)
open LO (Sd Dr Gr grd brd nxt itr wlk at4)
noncomputable def aN(s:Sd):Col:=[[.inl s.x,.inl s.y],[.inl s.ex,.inl s.ey]]
theorem dZ{s t:Sd}(h:aN s=aN t):s=t:=by
 obtain⟨h1,h2⟩:=uD h;have h3:=(uD h2).1;refine LO.nv ?_ ?_ ?_ ?_
 ·exact Sum.inl.inj (uD h1).1
 ·exact Sum.inl.inj (uD (uD h1).2).1
 ·exact Sum.inl.inj (uD h3).1
 ·exact Sum.inl.inj (uD (uD h3).2).1
section
variable{K:Frag}{H H':Hp}{b:Addr}{s:Sd}
theorem bH(h:cR K H b s):dO K H b (aN s):=by
 obtain⟨p,q,h1,h2,h3⟩:=h;refine⟨fun r hr k hk=>?_,_,h1,.cons ⟨p,rfl,h2⟩ (.cons ⟨q,rfl,h3⟩ .nil)⟩;rcases uy.mp hr with rfl|hr
 ·rcases uy.mp hk with rfl|hk
  ·rfl
  ·rw[ua.mp hk];rfl
 ·rw[ua.mp hr]at hk;rcases uy.mp hk with rfl|hk
  ·rfl
  ·rw[ua.mp hk];rfl
theorem qh(h:dO K H b (aN s)):cR K H b s:=by
 obtain⟨_,xs,h1,h2⟩:=h;cases h2 with
 |cons a t=>
  obtain⟨p,rfl,hp⟩:=a;cases t with
  |cons a' t'=>obtain⟨q,rfl,hq⟩:=a';cases t';exact⟨p,q,h1,hp,hq⟩
theorem aY(t:TK H H')(h:cR K H b s):cR K H' b s:=by obtain⟨p,q,h1,h2,h3⟩:=h;exact⟨p,q,t.sq h1,t.sq h2,t.sq h3⟩
end
def cP(K:Frag)(H:Hp)(v:V)(s:Sd):Prop:=∃b,v=.ref b/\cR K H b s
theorem cP.tk{K:Frag}{H H':Hp}{v:V}{s:Sd}(t:TK H H')(h:cP K H v s):cP K H' v s:=by obtain⟨b,e,h1⟩:=h;exact⟨b,e,aY t h1⟩
def PtE(K:Frag)(H:Hp)(v:V)(p:LO.Pt):Prop:=∃b,v=.ref b/\SqT K H b [.int p.1,.int p.2]
theorem PtE.tk{K:Frag}{H H':Hp}{v:V}{p:LO.Pt}(t:TK H H')(h:PtE K H v p):PtE K H' v p:=by obtain⟨b,e,h1⟩:=h;exact⟨b,e,t.sq h1⟩
end L2
namespace LO
noncomputable def jE(x y:Int):List Sd:=[⟨x,y+1,.s⟩,⟨x,y,.e⟩,⟨x+1,y,.n⟩,⟨x+1,y+1,.w⟩]
theorem lM{x y:Int}{s:Sd}:s∈jE x y<->s.d.cx s.x=x/\s.d.cy s.y=y:=by obtain⟨a,b,d⟩:=s;have e:∀{a b:Int}{d:Dr}{a' b':Int}{d':Dr},((⟨a,b,d⟩:Sd)=⟨a',b',d'⟩)<->a=a'/\b=b'/\d=d':=fun {a b d a' b' d'}=>⟨fun h=>by cases h;exact⟨rfl,rfl,rfl⟩,fun⟨h1,h2,h3⟩=>by rw[h1,h2,h3]⟩;unfold jE;simp only[uy,vE,or_false,e];cases d<;>simp[Dr.cx,Dr.cy]<;>omega
noncomputable def Sd.rev(s:Sd):Sd:=⟨s.ex,s.ey,s.d.lf.lf⟩
theorem e7(s:Sd):s.rev.x=s.ex/\s.rev.y=s.ey/\s.rev.ex=s.x/\s.rev.ey=s.y:=by
 obtain⟨x,y,d⟩:=s;refine⟨rfl,rfl,?_,?_⟩
 ·cases d<;>simp[Sd.rev,Sd.ex,Dr.lf,Dr.dx]<;>omega
 ·cases d<;>simp[Sd.rev,Sd.ey,Dr.lf,Dr.dy]<;>omega
theorem mO{w h g:Nat}(hw:0<w){s:Sd}:(∃k,k<w*h/\g.testBit k=true/\s∈jE ((k % w:Nat):Int) ((k / w:Nat):Int))<->at4 (grd w h g) s.x s.y s.d=true:=by
 constructor
 ·rintro⟨k,hk,hb,hm⟩;obtain⟨e1,e2⟩:=lM.mp hm;have m:=Nat.mod_lt k hw;have q:k / w<h:=Nat.div_lt_of_lt_mul hk;show grd w h g (s.d.cx s.x) (s.d.cy s.y)=true;rw[e1,e2];unfold grd;have e:k / w*w+k % w=k:=by rw[Nat.mul_comm];exact Nat.div_add_mod k w
  rw[tS (Int.natCast_nonneg (k % w)),tS (Int.ofNat_lt.mpr m),tS (Int.natCast_nonneg (k / w)),tS (Int.ofNat_lt.mpr q),uP,uP,e,hb];rfl
 ·intro h';have h':grd w h g (s.d.cx s.x) (s.d.cy s.y)=true:=h';unfold grd at h';simp only[va,uE]at h';obtain⟨⟨⟨⟨a1,a2⟩,a3⟩,a4⟩,a5⟩:=h';generalize hX:s.d.cx s.x=X at a1 a2 a5;generalize hY:s.d.cy s.y=Y at a3 a4 a5;obtain⟨x,rfl⟩:=Int.eq_ofNat_of_zero_le a1;obtain⟨y,rfl⟩:=Int.eq_ofNat_of_zero_le a3;rw[uP,uP]at a5;have x1:x<w:=Int.ofNat_lt.mp a2;have y1:y<h:=Int.ofNat_lt.mp a4;have e1:(y*w+x) % w=x:=by rw[Nat.mul_comm,Nat.mul_add_mod];exact Nat.mod_eq_of_lt x1
  have e2:(y*w+x) / w=y:=by rw[Nat.mul_comm,Nat.mul_add_div hw,Nat.div_eq_of_lt x1,Nat.add_zero]
  refine⟨y*w+x,?_,a5,lM.mpr ⟨by rw[e1];exact hX,by rw[e2];exact hY⟩⟩;have:(y+1)*w<=h*w:=Nat.mul_le_mul_right w y1;rw[Nat.add_mul,Nat.one_mul,Nat.mul_comm h w]at this;omega
theorem qi{G:Gr}{s:Sd}:brd G s=(at4 G s.x s.y s.d&& !at4 G s.rev.x s.rev.y s.rev.d):=by unfold brd;rw[<-ox];rfl
theorem kS{w h g:Nat}(hw:w<=8)(hh:h<=8){s:Sd}(hb:at4 (grd w h g) s.x s.y s.d=true):LT.gO s:=by obtain⟨x,y,d⟩:=s;have h':grd w h g (d.cx x) (d.cy y)=true:=hb;unfold grd at h';simp only[va,uE]at h';obtain⟨⟨⟨⟨a1,a2⟩,a3⟩,a4⟩,_⟩:=h';unfold LT.gO;cases d<;>simp[Dr.cx,Dr.cy,Sd.ex,Sd.ey,Dr.dx,Dr.dy]at* <;>omega
end LO
namespace L2
theorem sq2{K:Frag}{H:Hp}{b:PySem.Addr}{x y x' y':Int}(h:SqT K H b [.int x,.int y])(e1:x=x')(e2:y=y'):SqT K H b [.int x',.int y']:=by rw[<-e1,<-e2];exact h
end L2
namespace L2
open PySem PySem.Spec PyProof.Rows
noncomputable def kh(K:Frag)(a:Addr):It:=
 ⟨fun i H=>∃xs x,SqL K H a xs/\xs[i]?=some x,fun i H x H'=>∃T v,H T=none/\x=.ref T/\H'=upd H T (.tup [.int (i:Nat),v])/\∀xs,SqL K H a xs->xs[i]?=some v,fun i H=>∃xs,SqL K H a xs/\xs.length=i⟩
theorem kx{P:Program}{w:World}{K:Frag}{elts:List Expr}{x1:Nat}{pos:Pos}(a e it:Addr)(ne:e≠it):Turn P w K (.Tuple elts x1 pos) (kh K a) [e,it] e (fun i h=>(∃old,IsEnum h e it (i:Nat) old)/\h.IsListIter it a i) where
 mem:=by simp
 obj:=fun i h st b hb=>by
  have z:b=e\/b=it:=by simpa using hb
  obtain⟨⟨old,st1⟩,o,st2,c,d⟩:=st;rcases z with rfl|rfl
  ·exact⟨_,st1,fun v z=>by cases z⟩
  ·exact⟨o,st2,fun v z=>by rw[d]at z;cases z⟩
 keep:=fun i h h' st k=>by obtain⟨⟨old,st1⟩,st2⟩:=st;exact⟨⟨old,k e (by simp) _ st1⟩,st2.at fun o g=>k it (by simp) o g⟩
 item:=by
  intro X hP hw hK hc i pins s σ H E I hf st hg;subst hP hw hK;obtain⟨xs,x,hq,hx⟩:=hg;obtain⟨its,rv,p0,hz⟩:=I.list hq;have p:=p0.isList;obtain⟨u,hu,ru⟩:=rv.get hx;obtain⟨⟨old,st1⟩,st2⟩:=st;have fe:=hf e (by simp);have fi:=hf it (by simp);have hai:a≠it:=fun z=>by obtain⟨o,g1,c1,_⟩:=st2;obtain⟨o',g2,c2,_⟩:=p;rw[z,g1]at g2;cases g2;rw[c1]at c2;exact absurd c2 (by decide)
  have hae:a≠e:=fun z=>by obtain⟨o',g2,c2,_⟩:=p;rw[z,st1]at g2;cases g2;have c3:Value.type "enumerate"=Value.type "list":=c2;exact absurd c3 (by decide)
  have lt:i<its.toArray.size:=by have:=(t8.mp hu).1;simpa using this
  have D:Draws X.prog X.w X.A.in1 it [it,a] its.toArray.size (fun i x=>its.toArray[i]?=some x) (fun i h=>h.IsListIter it a i/\h.IsList a its.toArray):=Draws.list (A:=X.A.in1) (I.ok.hd hc) it a hai its.toArray;refine wpAny_pyNext_enum_itemD D st1 ⟨st2,p⟩ lt ne (by simp[ne,Ne.symm hae]) fun y h' tk hy o1 o2 o3 o4 k=>?_;have ey:y=u:=by have z:its.toArray[i]?=some u:=(by simpa using hu);rw[z]at hy;exact(vn hy).symm
  subst ey;refine⟨_,rfl,?_⟩;refine wpAny_letOwnedTupleGo_enum (s:={s with heap:=h',toks:=tk+1}) o1 fun h2 st1' sb=>?_;have nT:s.heap.objs.size≠e:=Nat.ne_of_gt (t9 st1);have kk:∀b o,b≠e->b≠it->s.heap.get? b=some o->h2.get? b=some o:=fun b o q1 q2 q=>(sb.2 b q1).trans (k b o q1 q2 q);refine⟨.ref s.heap.objs.size,upd H s.heap.objs.size (.tup [.int (i:Nat),x]),(show Inv X pins σ (upd H s.heap.objs.size (.tup [.int (i:Nat),x])) {s with heap:=h2,toks:=tk+1}from oW (s:=s) (h':=h2) (t':=tk+1) I kk fe fi (uc _) ?_),rfl,⟨_,x,I.hok.fresh (uc _),rfl,rfl,fun ys hy=>by rw[I.list_inj hy hq];exact hx⟩,⟨⟨_,by simpa using st1'⟩,?_⟩,fun b hb=>?_⟩
  ·exact⟨by show 2<=sizeLine;decide,[.int i tk,y],.cons ⟨tk,rfl⟩ (.cons ru .nil),⟨_,(sb.2 _ nT).trans o3,rfl,_,rfl⟩⟩
  ·exact o2.1.at fun o g=>(sb.2 it (Ne.symm ne)).trans g
  ·have nb:b≠s.heap.objs.size:=by
    have z:b=e\/b=it:=(by simpa using hb);rcases z with rfl|rfl
    ·exact uz (t9 st1)
    ·obtain⟨o,g,_⟩:=st2;exact uz (t9 g)
   rw[ax nb];exact(hf b hb).1
 done:=by
  intro X hP hw hK hc i pins s σ H E I hf st hg;subst hP hw hK;obtain⟨xs,hq,hx⟩:=hg;obtain⟨its,rv,p0,hz⟩:=I.list hq;have p:=p0.isList;obtain⟨⟨old,st1⟩,st2⟩:=st;obtain⟨f0,f1,f2,f3,f4,f5⟩:=hf it (by simp);have hai:a≠it:=fun z=>by obtain⟨o,g1,c1,_⟩:=st2;obtain⟨o',g2,c2,_⟩:=p;rw[z,g1]at g2;cases g2;rw[c1]at c2;exact absurd c2 (by decide)
  have D:Draws X.prog X.w X.A.in1 it [it,a] its.toArray.size (fun i x=>its.toArray[i]?=some x) (fun i h=>h.IsListIter it a i/\h.IsList a its.toArray):=Draws.list (A:=X.A.in1) (I.ok.hd hc) it a hai its.toArray;have el:i=its.toArray.size:=by have:=rv.length;simp;omega
  exact wpAny_pyNext_enum_endD D st1 ⟨el▸st2,p⟩ fun h' eb=>⟨rfl,I.turned (t':=s.toks) (fun b o hb g=>eb b o hb g) f0 f1 f3 f4 f5⟩
 self:=fun A i s Q E st h=>by obtain⟨⟨old,st1⟩,_⟩:=st;exact wpAny_pyIter_enum st1 h
section
variable{X:Cx}{elts:List Expr}{x1:Nat}{tp:Pos}
def sN(K:Frag)(ta:TA):TI:=fun σ H R=>ta σ H fun vs H1=>∃a,vs=[.ref a]/\(∃xs,SqL K H1 a xs)/\R (kh K a) H1
theorem gr{l:Expr}{ta:TA}{p pos:Pos}(hg:Gl X "enumerate")(hm:X.mg "enumerate"=none)(ha:PA X [l] ta)(hs:starEach [l] X.env=[(false,eval l X.env)]:=by rfl):PI X (.Tuple elts x1 tp) (.Call (.Name "enumerate" p) [l] [] pos) (sN X.K ta):=by
 intro pins s σ H R I h;refine Call_ (fw I hg hm boot_enumerate (PyProof.Rows.callWith_type1 (thn (ha pos pins s σ H _ I h) fun us s1 hPz=>?_) hs rfl));obtain⟨vs,H1,I1,r1,q1⟩:=hPz;obtain⟨a,e,⟨xs,hq⟩,q⟩:=q1;subst e;cases r1 with
 |cons r rr=>
  cases rr;cases r;obtain⟨its,rv,pt,hz⟩:=I1.list hq;refine call_enumerate_list pt.isList fun h' he hit hsz hk=>?_;refine wpAny_pyIter_enum he ?_;refine⟨s1.heap.objs.size+1,[s1.heap.objs.size+1,s1.heap.objs.size],_,_,H1,rfl,I1.kept (t':=s1.toks) hk,kx a _ _ (Nat.succ_ne_self _),⟨⟨_,he⟩,hit⟩,fun b hb=>?_,q⟩;have z:b=s1.heap.objs.size+1\/b=s1.heap.objs.size:=by simpa using hb
  rcases z with rfl|rfl
  ·exact I1.fpOk (Nat.le_succ _) (I1.hok.fresh (Nat.le_succ _))
  ·exact I1.fpOk (uc _) (I1.hok.fresh (uc _))
end
theorem ir{K:Frag}{a:Addr}{xs:List V}{g:TG}{tb:TS}{D:Ends}{σ:St}{H:Hp}(Pv:Nat->St->Hp->Prop)(h0:Pv 0 σ H)(hl:∀i σ H,i<=xs.length->Pv i σ H->SqL K H a xs)
  (hs:∀i y σ H T,xs[i]?=some y->Pv i σ H->H T=none->g (.ref T) σ (upd H T (.tup [.int (i:Nat),y])) fun σ2 H2=>tb {D with nx:=Pv (i+1),ct:=Pv (i+1),bk:=D.nx} σ2 H2) (hd:∀σ H,Pv xs.length σ H->D.nx σ H):
  ∃W:Nat->Nat->St->Hp->Prop,(∃m,W 0 m σ H)/\∀i m σ H,W i m σ H->
   ((kh K a).stop i H/\D.nx σ H)\/((kh K a).go i H/\∃N:St->Hp->Prop,(∀σ' H',N σ' H'->∃m',m'<m/\W (i+1) m' σ' H')/\∀x H',(kh K a).yld i H x H'->g x σ H' fun σ2 H2=>tb {D with nx:=N,ct:=N,bk:=D.nx} σ2 H2):=by
 refine⟨fun i m σ H=>m=xs.length-i/\i<=xs.length/\Pv i σ H,⟨xs.length,by simp,uJ _,h0⟩,?_⟩;rintro i m σ H ⟨rfl,hi,p⟩;have q:=hl i σ H hi p;by_cases hlt:i<xs.length
 ·refine .inr ⟨⟨xs,xs[i],q,by simp[hlt]⟩,Pv (i+1),fun σ' H' p'=>⟨xs.length-(i+1),by omega,rfl,hlt,p'⟩,fun x H' y=>?_⟩;obtain⟨T,v,hT,rfl,rfl,y⟩:=y;exact hs i v σ H T (y xs q) p hT
 ·have e:i=xs.length:=by omega
  exact .inl ⟨⟨xs,q,e.symm⟩,hd σ H (e▸p)⟩
theorem sR{K:Frag}{a:Addr}{xs:List V}{g:TG}{tt:TT}{te:TE}{σ0:St}{Q:Hp->Prop}{D:Addr}{H:Hp}(Pv:Nat->List V->Hp->Prop)(h0:Pv 0 [] H)(hl:∀i acc H,i<=xs.length->Pv i acc H->SqL K H a xs)
  (hs:∀i x acc H2 T,xs[i]?=some x->Pv i acc H2->H2 T=none->g (.ref T) σ0 (upd H2 T (.tup [.int (i:Nat),x])) fun σ2 H4=>tt σ2 H4 fun b H5=>if b=true then te σ2 H5 fun y H6=>H6 D=some (.lst acc)/\acc.length<sizeLine/\Pv (i+1) (acc++[y]) (upd H6 D (.lst (acc++[y])))else Pv (i+1) acc H5)
  (hd:∀acc H2,Pv xs.length acc H2->Q H2):
  ∃W:Nat->Nat->List V->Hp->Prop,(∃m,W 0 m [] H)/\∀i m acc H2,W i m acc H2->
   ((kh K a).stop i H2/\Q H2)\/((kh K a).go i H2/\∃N:List V->Hp->Prop,(∀acc' H',N acc' H'->∃m',m'<m/\W (i+1) m' acc' H')/\∀x H3,(kh K a).yld i H2 x H3->g x σ0 H3 fun σ2 H4=>tt σ2 H4 fun b H5=>if b=true then te σ2 H5 fun y H6=>H6 D=some (.lst acc)/\acc.length<sizeLine/\N (acc++[y]) (upd H6 D (.lst (acc++[y])))else N acc H5):=by
 refine⟨fun i m acc H=>m=xs.length-i/\i<=xs.length/\Pv i acc H,⟨xs.length,by simp,uJ _,h0⟩,?_⟩;rintro i m acc H2 ⟨rfl,hi,p⟩;have q:=hl i acc H2 hi p;by_cases hlt:i<xs.length
 ·refine .inr ⟨⟨xs,xs[i],q,by simp[hlt]⟩,Pv (i+1),fun acc' H' p'=>⟨xs.length-(i+1),by omega,rfl,hlt,p'⟩,fun x H3 y=>?_⟩;obtain⟨T,v,hT,rfl,rfl,y⟩:=y;exact hs i v acc H2 T (y xs q) p hT
 ·have e:i=xs.length:=by omega
  exact .inl ⟨⟨xs,q,e.symm⟩,hd acc H2 (e▸p)⟩
end L2
namespace L2
open PySem PySem.Spec PyProof.Rows
open LO LT
theorem kc:∀(V:List Sd)(d:Dr)(s:Sd),cor d (V++[s])=cor d V++(if s.d≠(V.getLast?.map fun t=>t.d).getD d then[s.st]else[])
 | [],d,s=>rfl
 |t::V,d,s=>by
  have e:((t::V).getLast?.map fun t=>t.d).getD d=(V.getLast?.map fun t=>t.d).getD t.d:=by
   cases V with
   |nil=>rfl
   |cons x V=>rw[List.getLast?_cons_cons,uv (uK x V)];rfl
  rw[e,List.cons_append];show(if t.d≠d then t.st::cor t.d (V++[s])else cor t.d (V++[s]))=(if t.d≠d then t.st::cor t.d V else cor t.d V)++_;rw[kc V t.d s];by_cases z:t.d≠d
  ·rw[tU z,tU z,List.cons_append]
  ·rw[tV z,tV z]
theorem je:∀(d:Dr)(W:List Sd),(cor d W).length<=W.length
 |_,[]=>uc _
 |d,s::W=>by have:=je s.d W;unfold cor;split<;>simp<;>omega
theorem l8{α:Type}{xs:List α}{i:Nat}{v:α}(h:xs[i]?=some v):∃v',atI xs ((i:Int)-1)=some v'/\((xs.take i).getLast?.or xs.getLast?)=some v':=by
 have hi:=(t8.mp h).1;cases i with
 |zero=>
  have hn:xs≠[]:=fun z=>by rw[z]at hi;cases hi
  refine⟨xs.getLast hn,?_,?_⟩
  ·have e:=List.dropLast_concat_getLast hn;have:=oD xs.dropLast (xs.getLast hn);rw[e]at this;exact this
  ·rw[List.take_zero,uv hn];rfl
 |succ i=>
  have hi':i<xs.length:=by omega
  refine⟨xs[i],?_,?_⟩
  ·rw[show(((i+1:Nat):Int)-1)=((i:Nat):Int) by omega];exact ak (ui hi')
  ·rw[List.take_succ_eq_append_getElem hi',List.getLast?_concat];rfl
theorem dW{α β:Type}{R:α->β->Prop}{xs:List α}{ys:List β}(p:Paired R xs ys){i:Nat}{v:α}(h:xs[i]?=some v):∃v' y y',atI xs ((i:Int)-1)=some v'/\ys[i]?=some y/\R v y/\((ys.take i).getLast?.or ys.getLast?)=some y'/\R v' y':=by obtain⟨y,hy,r⟩:=a9 p h;obtain⟨v',a1,a2⟩:=l8 h;obtain⟨y',b1,b2⟩:=l8 hy;refine⟨v',y,y',a1,hy,r,b2,?_⟩;unfold atI at a1 b1;rw[uj p]at a1;obtain⟨j,e1,e2⟩:=Option.bind_eq_some_iff.mp a1;rw[e1]at b1;obtain⟨y2,f1,f2⟩:=a9 p e2;have:some y2=some y':=f1.symm.trans b1;cases this;exact f2
theorem qP{W:List Sd}{i:Nat}{t:Sd}{d:Dr}(h:((W.take i).getLast?.or W.getLast?)=some t):((W.take i).getLast?.map fun s=>s.d).getD ((W.getLast?.map fun s=>s.d).getD d)=t.d:=by
 cases e:(W.take i).getLast? with
 |some x=>rw[e]at h;cases h;rfl
 |none=>rw[e]at h;rw[show W.getLast?=some t from h];rfl
theorem rp{K:Frag}{H:Hp}{b:PySem.Addr}{x y:Int}(h:SqT K H b [.int x,.int y]):IsD K H (c4 [.inl x,.inl y]) (.ref b):=.tup h (.cons (.int _) (.cons (.int _) .nil))
theorem qc(d e:Dr):PyData.eqv (c4 [.inl d.dx,.inl d.dy]) (c4 [.inl e.dx,.inl e.dy])=decide (d=e):=by show PyData.eqvAll (([.inl d.dx,.inl d.dy]:List Key).map cB) (([.inl e.dx,.inl e.dy]:List Key).map cB)=_;rw[iL];cases d<;>cases e<;>decide
structure Kn(T:CT)(S:Sd->Prop):Prop where
 nd:(T.map (·.1)).Nodup
 sub:∀t∈T,∃s,t.1=aN s/\S s
 all:∀s,S s->∃t∈T,t.1=aN s
section
variable{T:CT}{S S':Sd->Prop}
theorem kK:Kn [] fun _=>False:=⟨.nil,fun _ z=>(vE z).elim,fun _ z=>z.elim⟩
theorem Kn.congr(h:Kn T S)(e:∀s,S s<->S' s):Kn T S':=⟨h.nd,fun t ht=>by obtain⟨s,a,b⟩:=h.sub t ht;exact⟨s,a,(e s).mp b⟩,fun s z=>h.all s ((e s).mpr z)⟩
theorem nB(T:CT)(c:Col)(b:Addr)(v:V):(cQ T c b v).map (·.1)=if(T.any fun t=>decide (t.1=c))=true then T.map (·.1)else T.map (·.1)++[c]:=by
 unfold cQ;split
 ·rw[uX];refine List.map_congr_left fun t _=>?_;show(if t.1=c then(t.1,t.2.1,v)else t).1=t.1;split<;>rfl
 ·rw[uZ];rfl
theorem kJ(h:Kn T S)(s:Sd)(b:Addr)(v:V):Kn (cQ T (aN s) b v) fun t=>S t\/t=s:=by
 have e:=nB T (aN s) b v;have mem:∀c,(∃t∈cQ T (aN s) b v,t.1=c)<->((∃t∈T,t.1=c)\/c=aN s):=fun c=>by
  have a1:(∃t∈cQ T (aN s) b v,t.1=c)<->c∈(cQ T (aN s) b v).map (·.1):=by simp
  have a2:(∃t∈T,t.1=c)<->c∈T.map (·.1):=by simp
  rw[a1,a2,e];by_cases z:(T.any fun t=>decide (t.1=aN s))=true
  ·rw[tU z];refine⟨.inl,fun y=>y.elim id fun y=>?_⟩;obtain⟨t,ht,et⟩:=List.any_eq_true.mp z;rw[y];exact uu.mpr ⟨t,ht,vd et⟩
  ·rw[tV z,ub,ua]
 refine⟨?_,fun t ht=>?_,fun t ht=>?_⟩
 ·rw[e];by_cases z:(T.any fun t=>decide (t.1=aN s))=true
  ·rw[tU z];exact h.nd
  ·rw[tV z];refine List.nodup_append.mpr ⟨h.nd,vu _ _,fun x hx y hy xy=>z ?_⟩;obtain⟨t,ht,et⟩:=uu.mp hx;rw[ua.mp hy]at xy;exact List.any_eq_true.mpr ⟨t,ht,tS (et.trans xy)⟩
 ·rcases (mem t.1).mp ⟨t,ht,rfl⟩with⟨t',h',e'⟩|e'
  ·obtain⟨s',a,b⟩:=h.sub t' h';exact⟨s',e'.symm.trans a,.inl b⟩
  ·exact⟨s,e',.inr rfl⟩
 ·refine(mem (aN t)).mpr ?_;rcases ht with z|z
  ·exact .inl (h.all t z)
  ·exact .inr (by rw[z])
theorem Kn.at(h:Kn T S)(s:Sd):(L2.atT T (aN s)).isSome=true<->S s:=by
 unfold L2.atT;rw[Option.isSome_map,List.find?_isSome];constructor
 ·rintro⟨t,ht,e⟩;obtain⟨s',a,b⟩:=h.sub t ht;rw[vd e]at a;rw[dZ a];exact b
 ·intro z;obtain⟨t,ht,e⟩:=h.all s z;exact⟨t,ht,tS e⟩
theorem Kn.list(h:Kn T S):∃L:List Sd,Paired (fun(t:Col×Addr×V) s=>t.1=aN s) T L/\L.Nodup/\∀s,s∈L<->S s:=by
 have:∀{T:CT},(∀t∈T,∃s,t.1=aN s)->∃L:List Sd,Paired (fun(t:Col×Addr×V) s=>t.1=aN s) T L/\T.map (·.1)=L.map aN:=by
  intro T
  induction T with
  |nil=>exact fun _=>⟨[],.nil,rfl⟩
  |cons t T ih=>intro hs;obtain⟨s,e⟩:=hs t (tY ..);obtain⟨L,p,el⟩:=ih fun u hu=>hs u (t6 _ hu);exact⟨s::L,.cons e p,by rw[uO,uO,el,e]⟩
 obtain⟨L,p,e⟩:=this fun t ht=>(h.sub t ht).imp fun _ z=>z.1
 have inj:∀s,aN s∈L.map aN<->s∈L:=fun s=>⟨fun z=>by
  obtain⟨s',a,b⟩:=uu.mp z
  exact dZ b▸a,List.mem_map_of_mem⟩
 refine⟨L,p,?_,fun s=>?_⟩
 ·have nd:=h.nd;rw[e]at nd;exact(List.pairwise_map.mp nd).imp fun z y=>z (by rw[y])
 ·rw[<-inj,<-e];constructor
  ·intro z;obtain⟨t,ht,et⟩:=uu.mp z;obtain⟨s',a,b⟩:=h.sub t ht;rw[dZ (et.symm.trans a)];exact b
  ·intro z;obtain⟨t,ht,et⟩:=h.all s z;exact uu.mpr ⟨t,ht,et⟩
theorem sI{kvs:CT}:∀{U:List Sd},kvs.map (·.1)=U.map aN->Kn (mkT kvs) (fun s=>s∈U):=by
 have gen:∀(kvs:CT)(U:List Sd)(T:CT)(S:Sd->Prop),Kn T S->kvs.map (·.1)=U.map aN->Kn (kvs.foldl (fun T x=>cQ T x.1 x.2.1 x.2.2) T) (fun s=>S s\/s∈U):=by
  intro kvs
  induction kvs with
  |nil=>
   intro U T S h e;cases U with
   |nil=>exact h.congr fun s=>by simp
   |cons=>cases e
  |cons x kvs ih=>
   intro U T S h e;cases U with
   |nil=>cases e
   |cons s U=>rw[uO,uO,List.cons.injEq]at e;rw[List.foldl_cons,e.1];refine(ih U _ _ (kJ h s x.2.1 x.2.2) e.2).congr fun t=>?_;rw[uy,or_assoc]
 intro U e;exact(gen kvs U [] _ kK e).congr fun s=>by simp
end
section
variable{P:Program}{w:World}{K:Frag}{H H':Hp}{d b:Addr}{o o':Obj}{T:CT}{c:Col}{v:V}
theorem bO(s:aq H H')(h:b6 P w K H d o T):b6 P w K H' d o T:=⟨s _ _ h.1,h.2.1,h.2.2.1,fun t ht=>(h.2.2.2 t ht).tk s.tk⟩
theorem iw(h:b6 P w K H d o T)(hb:dO K H b c)(ho:jo P w o' (cQ T c b v)):b6 P w K (upd H d (bY d o')) d o' (cQ T c b v):=
 ⟨ae,ho,h.2.2.1,mD (P:=fun t=>dO K (upd H d (bY d o')) t.2.1 t.1) (fun t ht=>(h.2.2.2 t ht).tk (TK.obj h.1)) (hb.tk (TK.obj h.1)) fun _ z _=>z⟩
theorem lD{vs:List V}{U:List Sd}(p:Paired (cP K H) vs U):∃zs:AS,vs=zs.map (fun z=>V.ref z.1)/\zs.map (·.2)=U/\∀z∈zs,cR K H z.1 z.2:=by
 induction p with
 |nil=>exact⟨[],rfl,rfl,fun _ z=>(vE z).elim⟩
 |cons a _ ih=>obtain⟨b,rfl,hb⟩:=a;obtain⟨zs,rfl,rfl,hz⟩:=ih;exact⟨(b,_)::zs,rfl,rfl,fun z hz'=>(uy.mp hz').elim (fun e=>e▸hb) (hz z)⟩
theorem kY:∀{zs:AS},(∀z∈zs,cR K H z.1 z.2)->Paired (cP K H) (zs.map (fun z=>V.ref z.1)) (zs.map (·.2))
 | [],_=>.nil
 |z::_,h=>.cons ⟨z.1,rfl,h z (tY ..)⟩ (kY fun y hy=>h y (t6 _ hy))
end
end L2
namespace LO
open LT
structure LW(G:Gr)(W:List Sd)(s:Sd)(n:Nat):Prop where
 b:brd G s=true
 n0:0<n
 e:W=wlk G s n
 cl:itr G s n=s
 nd:W.Nodup
 least:∀t∈W,¬sm t.st s.st
noncomputable def fK(W:List Sd):Dr:=(W.getLast?.map fun s=>s.d).getD .e
noncomputable def bL(W:List Sd):List Pt:=cor (fK W) W
section
variable{G:Gr}{W:List Sd}{s:Sd}{n:Nat}
theorem LW.is(h:LW G W s n):kl G W:=⟨⟨s,n,h.b,h.n0,h.e,h.cl⟩,h.nd⟩
theorem LW.cons(h:LW G W s n):∃V,W=s::V:=by rw[h.e];obtain⟨m,rfl⟩:∃m,n=m+1:=⟨n-1,by have:=h.n0;omega⟩;unfold wlk;rw[List.range_succ_eq_map];exact⟨_,rfl⟩
theorem LW.last(h:LW G W s n):s.d≠fK W:=by
 have e:=kq h.b h.n0 h.cl (h.e▸h.least);obtain⟨m,rfl⟩:∃m,n=m+1:=⟨n-1,by have:=h.n0;omega⟩;have:fK W=(itr G s m).d:=by rw[h.e,fW,fK,List.getLast?_concat];rfl
 rw[this];exact e
theorem LW.head(h:LW G W s n):∃R,bL W=s.st::R:=by obtain⟨V,e⟩:=h.cons;have l:=h.last;unfold bL;generalize fK W=d at l;rw[e];exact⟨cor s.d V,tU l⟩
theorem LW.sum{A:Type}{op:A->A->A}{u:A}{f:Pt->Pt->A}(a:km op u f)(h:LW G W s n):bK op u f (bL W)=dM op u f W:=by obtain⟨V,e⟩:=h.cons;have l:=h.last;have w:=oO h.b h.cl;rw[<-h.e]at w;unfold bL;generalize fK W=d at l;rw[e]at w ⊢;exact nz a l w.1 w.2
theorem LW.dir(h:LW G W s n):s.d=.e\/s.d=.n:=by
 have m:nxt G s∈W:=h.is.cl s (by obtain⟨V,e⟩:=h.cons;rw[e];exact tY ..);have:=h.least _ m;rw[dA h.b]at this;cases z:s.d with
 |e=>exact .inl rfl
 |n=>exact .inr rfl
 |w=>exact(this (by left;show s.x+s.d.dx<s.x;rw[z];show s.x+ -1<s.x;omega)).elim
 |s=>exact(this (by right;exact⟨by show s.x+s.d.dx=s.x;rw[z];show s.x+0=s.x;omega,by show s.y+s.d.dy<s.y;rw[z];show s.y+ -1<s.y;omega⟩)).elim
end
theorem pF{G:Gr}{s t:Sd}(hs:brd G s=true)(ht:brd G t=true)(ds:s.d=.e\/s.d=.n)(dt:t.d=.e\/t.d=.n)(e:s.st=t.st):s=t:=by
 obtain⟨x,y,d⟩:=s;obtain⟨x',y',d'⟩:=t;cases e;have a:=cg.mp hs;have b:=cg.mp ht;rcases ds with z|z
 ·rcases dt with z'|z'
  ·cases z;cases z';rfl
  ·cases z;cases z';have a1:at4 G x y .e=true:=a.1;have b2:at4 G x y .e=false:=b.2;rw[a1]at b2;cases b2
 ·rcases dt with z'|z'
  ·cases z;cases z';have b1:at4 G x y .e=true:=b.1;have a2:at4 G x y .e=false:=a.2;rw[b1]at a2;cases a2
  ·cases z;cases z';rfl
structure Rg(G:Gr)(U:List Sd)(i:Nat)(Ws:List (List Sd)):Prop where
 wk:∀W∈Ws,∃s n,LW G W s n
 nd:Ws.flatten.Nodup
 all:∀s∈U.take i,s∈Ws.flatten
 len:Ws.length<=i
section
variable{G:Gr}{U:List Sd}{i:Nat}{Ws:List (List Sd)}{s:Sd}{n:Nat}
theorem qM:Rg G U 0 []:=⟨fun _ z=>(vE z).elim,.nil,fun _ z=>by simp at z,uc _⟩
theorem Rg.skip(h:Rg G U i Ws)(hs:U[i]?=some s)(m:s∈Ws.flatten):Rg G U (i+1) Ws:=⟨h.wk,h.nd,fun t ht=>by
 rw[uq,hs,uw,ub,ua]at ht
 exact ht.elim (h.all t) fun z=>z▸m,Nat.le_succ_of_le h.len⟩
theorem Rg.cl(h:Rg G U i Ws):∀t,t∈Ws.flatten->nxt G t∈Ws.flatten:=fun t ht=>by obtain⟨W,hW,m⟩:=List.mem_flatten.mp ht;obtain⟨s,n,l⟩:=h.wk W hW;exact List.mem_flatten.mpr ⟨W,hW,l.is.cl t m⟩
theorem Rg.brd(h:Rg G U i Ws):∀t,t∈Ws.flatten->brd G t=true:=fun t ht=>by obtain⟨W,hW,m⟩:=List.mem_flatten.mp ht;obtain⟨s,n,l⟩:=h.wk W hW;exact l.is.brd t m
theorem Rg.add(h:Rg G U i Ws)(hU:∀t,t∈U<->LO.brd G t=true)(ok:∀t∈U,gO t)(so:U.Pairwise fun s t=>sdN s<=sdN t)(hs:U[i]?=some s)(m:s∉Ws.flatten)(n0:0<n)(e:itr G s n=s)(nd:(wlk G s n).Nodup):
  LW G (wlk G s n) s n/\Rg G U (i+1) (Ws++[wlk G s n]):=by
 have ms:s∈U:=uC hs;have out:=oP h.cl e m;have bs:=(hU s).mp ms;have bt:∀t∈wlk G s n,LO.brd G t=true:=fun t ht=>by obtain⟨j,_,rfl⟩:=uu.mp ht;exact cc bs j
 have L:LW G (wlk G s n) s n:=⟨bs,n0,rfl,e,nd,fun t ht z=>by
  have mt:t∈U:=(hU t).mpr (bt t ht);obtain⟨j,hj⟩:=List.getElem?_of_mem mt;have ji:i<=j:=Nat.le_of_not_lt fun y=>out t ht (h.all t (uC (i:=j) (by rw[List.getElem?_take,tU y];exact hj)));have le:sdN s<=sdN t:=by
   rcases Nat.lt_or_eq_of_le ji with y|y
   ·obtain⟨i1,i2⟩:=t8.mp hs;obtain⟨j1,j2⟩:=t8.mp hj;have:=uY.mp so i j i1 j1 y;rwa[i2,j2]at this
   ·rw[<-y,hs]at hj;cases hj;exact vq _
  obtain⟨a1,a2,a3,a4⟩:=ok s ms;obtain⟨b1,b2,b3,b4⟩:=ok t mt;unfold sdN at le;rcases z with z|⟨z1,z2⟩
  ·have z:t.x<s.x:=z;omega
  ·have z1:t.x=s.x:=z1;have z2:t.y<s.y:=z2
   omega⟩
 refine⟨L,fun W hW=>?_,?_,fun t ht=>?_,?_⟩
 ·rcases ub.mp hW with z|z
  ·exact h.wk W z
  ·rw[ua.mp z];exact⟨s,n,L⟩
 ·rw[List.flatten_append,List.flatten_singleton];exact List.nodup_append.mpr ⟨h.nd,nd,fun x hx y hy z=>out y hy (z▸hx)⟩
 ·rw[List.flatten_append,List.flatten_singleton,ub];rw[uq,hs,uw,ub,ua]at ht;refine ht.elim (fun z=>.inl (h.all t z)) fun z=>.inr ?_;rw[z];exact uu.mpr ⟨0,uU.mpr n0,rfl⟩
 ·rw[uA];exact Nat.succ_le_succ h.len
noncomputable def i8(W:List Sd):Pt:=((bL W).head?).getD (0,0)
theorem LW.fst{W:List Sd}(h:LW G W s n):i8 W=s.st:=by obtain⟨R,e⟩:=h.head;unfold i8;rw[e];rfl
theorem Rg.unlike:∀{Ws:List (List Sd)},(∀W∈Ws,∃s n,LW G W s n)->Ws.flatten.Nodup->(Ws.map i8).Nodup
 | [],_,_=>.nil
 |W::Ws,hw,nd=>by rw[List.flatten_cons]at nd;obtain⟨_,n2,n3⟩:=List.nodup_append.mp nd;refine List.nodup_cons.mpr ⟨fun z=>?_,Rg.unlike (fun V hV=>hw V (t6 _ hV)) n2⟩;obtain⟨V,hV,e⟩:=uu.mp z;obtain⟨s,n,l⟩:=hw W (tY ..);obtain⟨t,m,k⟩:=hw V (t6 _ hV);rw[l.fst,k.fst]at e;have:=pF k.b l.b k.dir l.dir e;obtain⟨W1,e1⟩:=l.cons;obtain⟨V1,e2⟩:=k.cons;exact n3 s (by rw[e1];exact tY ..) s (List.mem_flatten.mpr ⟨V,hV,by rw[e2,this];exact tY ..⟩) rfl
noncomputable def cq(l:List Nat):Nat:=l.foldr (·^^^·) 0
theorem gY:∀(l:List Nat)(x:Nat),cq (l++[x])=cq l^^^x
 | [],x=>by show x^^^0=0^^^x;rw[Nat.xor_zero,vF]
 |a::l,x=>by show a^^^cq (l++[x])=(a^^^cq l)^^^x;rw[gY l x,Nat.xor_assoc]
end
theorem ff{α β:Type}{f:α->β}{ys zs:List β}(p:ys.Perm zs):∀{l:List α},zs=l.map f->∃k:List α,k.Perm l/\ys=k.map f:=by
 induction p with
 |nil=>exact fun {l} e=>⟨l,.refl _,e⟩
 |cons a _ ih=>
  intro l e;cases l with
  |nil=>cases e
  |cons x l=>cases e;obtain⟨k,q,rfl⟩:=ih rfl;exact⟨x::k,q.cons _,rfl⟩
 |swap a b r=>
  intro l e
  match l,e with
  |x::y::l,e=>cases e;exact⟨y::x::l,.swap _ _ _,rfl⟩
 |trans _ _ h1 h2=>intro l e;obtain⟨k,q,e1⟩:=h2 e;obtain⟨k',q',e2⟩:=h1 e1;exact⟨k',q'.trans q,e2⟩
structure Rs(G:Gr)(Ws:List (List Sd)):Prop where
 wk:∀W∈Ws,∃s n,LW G W s n
 nd:Ws.flatten.Nodup
 all:∀s,s∈Ws.flatten<->brd G s=true
section
variable{G:Gr}{U:List Sd}{i:Nat}{Ws Vs:List (List Sd)}
theorem Rg.rs(r:Rg G U U.length Ws)(hU:∀t,t∈U<->LO.brd G t=true):Rs G Ws:=⟨r.wk,r.nd,fun s=>⟨r.brd s,fun z=>r.all s (by rw[uG];exact(hU s).mpr z)⟩⟩
theorem Rs.perm(r:Rs G Ws)(p:Vs.Perm Ws):Rs G Vs:=⟨fun W hW=>r.wk W (p.mem_iff.mp hW),p.flatten.nodup_iff.mpr r.nd,fun s=>(p.flatten.mem_iff).trans (r.all s)⟩
theorem Rs.sum{A:Type}{op:A->A->A}{u:A}{f:Pt->Pt->A}(a:km op u f)(r:Rs G Ws):((Ws.map bL).map (bK op u f)).foldr op u=dM op u f Ws.flatten:=by
 rw[gZ a];have wk:=r.wk;clear r
 induction Ws with
 |nil=>rfl
 |cons W Ws ih=>obtain⟨s,n,l⟩:=wk W (tY ..);show op (bK _ _ _ (bL W)) _=op _ _;rw[l.sum a,ih fun V hV=>wk V (t6 _ hV)]
theorem Rs.xor{w h g:Nat}(hw:0<w)(hg:g<2^(w*h))(r:Rs (grd w h g) Ws):cq ((Ws.map bL).map (bK (·^^^·) 0 (fX w h)))=g:=(r.sum (rK w h)).trans (oT hw hg r.nd r.all)
end
theorem lZ:∀{W:List Sd}{d:Dr}{p:Pt},p∈cor d W->∃s∈W,p=s.st
 |s::W,d,p,h=>by
  have:p=s.st\/p∈cor s.d W:=by
   unfold cor at h;split at h
   ·exact uy.mp h
   ·exact .inr h
  rcases this with z|z
  ·exact⟨s,tY ..,z⟩
  ·obtain⟨t,ht,e⟩:=lZ z;exact⟨t,t6 _ ht,e⟩
end LO
namespace L2
open PySem PySem.Spec PyProof.Rows
open LO LT
def dN(K:Frag)(H:Hp)(b:Addr)(R:List Pt):Prop:=∃xs,H b=some (.lst xs)/\Paired (PtE K H) xs R
def oF(K:Frag)(H:Hp)(v:V)(R:List Pt):Prop:=∃b,v=.ref b/\dN K H b R
def FoE(lf:Addr)(K:Frag)(H:Hp)(v:V)(W:List Sd):Prop:=∃b,v=.ref b/\b≠lf/\dN K H b (bL W)
section
variable{K:Frag}{H H':Hp}{lf b:Addr}{v:V}{W:List Sd}{R:List Pt}
theorem dN.same(s:aq H H')(h:dN K H b R):dN K H' b R:=by obtain⟨xs,h1,h2⟩:=h;exact⟨xs,s _ _ h1,Paired.imp (fun _ _ z=>PtE.tk s.tk z) h2⟩
theorem FoE.same(s:aq H H')(h:FoE lf K H v W):FoE lf K H' v W:=by obtain⟨b,rfl,n,h⟩:=h;exact⟨b,rfl,n,h.same s⟩
theorem FoE.put{xs ys:List V}(hl:H lf=some (.lst xs))(h:FoE lf K H v W):FoE lf K (upd H lf (.lst ys)) v W:=by obtain⟨b,rfl,n,zs,h1,h2⟩:=h;exact⟨b,rfl,n,zs,by rw[ax n];exact h1,Paired.imp (fun _ _ z=>PtE.tk (TK.lst hl) z) h2⟩
theorem FoE.obj{d:Addr}{o o':Obj}(hd:H d=some (bY d o))(h:FoE lf K H v W):FoE lf K (upd H d (bY d o')) v W:=by obtain⟨b,rfl,n,zs,h1,h2⟩:=h;exact⟨b,rfl,n,zs,by rw[ax (fun z=>by rw[z,hd]at h1;cases h1)];exact h1,Paired.imp (fun _ _ z=>PtE.tk (TK.obj hd) z) h2⟩
theorem rD{vs:List V}{Ws:List (List Sd)}(p:Paired (FoE lf K H) vs Ws):∃tz:List (Addr×List Sd),vs=tz.map (fun z=>V.ref z.1)/\tz.map (·.2)=Ws/\∀z∈tz,dN K H z.1 (bL z.2):=by
 induction p with
 |nil=>exact⟨[],rfl,rfl,fun _ z=>(vE z).elim⟩
 |cons a _ ih=>obtain⟨b,rfl,_,hb⟩:=a;obtain⟨tz,rfl,rfl,hz⟩:=ih;exact⟨(b,_)::tz,rfl,rfl,fun z hz'=>(uy.mp hz').elim (fun e=>e▸hb) (hz z)⟩
theorem ng:∀{tz:List (Addr×List Sd)},(∀z∈tz,dN K H z.1 (bL z.2))->Paired (oF K H) (tz.map fun z=>V.ref z.1) ((tz.map (·.2)).map bL)
 | [],_=>.nil
 |z::_,h=>.cons ⟨z.1,rfl,h z (tY ..)⟩ (ng fun y hy=>h y (t6 _ hy))
theorem Kn.len{T:CT}{S:Sd->Prop}{U:List Sd}(h:Kn T S)(hs:∀s,S s->s∈U):T.length<=U.length:=by obtain⟨L,p,nd,e⟩:=h.list;rw[uj p];exact LM.length_le_of_subset nd fun x hx=>hs x ((e x).mp hx)
end
end L2
namespace LO
section
variable{A:Type}{op:A->A->A}{u:A}{f:Pt->Pt->A}
theorem gj(as:∀a b c,op (op a b) c=op a (op b c))(lu:∀a,op u a=a)(ru:∀a,op a u=a)(q:Pt):∀(V:List Pt)(z:Pt),bf op u f z (V++[q])=op (bf op u f z V) (f (V.getLast?.getD z) q)
 | [],z=>by show op (f z q) u=op u (f z q);rw[ru,lu]
 |p::V,z=>by
  have e:(p::V).getLast?.getD z=V.getLast?.getD p:=by
   cases V with
   |nil=>rfl
   |cons x V=>rw[List.getLast?_cons_cons,uv (uK x V)];rfl
  show op (f z p) (bf op u f p (V++[q]))=op (op (f z p) (bf op u f p V)) _;rw[gj as lu ru q V p,as,e]
theorem d7{R:List Pt}{z:Pt}(h:R.getLast?=some z):bK op u f R=bf op u f z R:=by
 cases R with
 |nil=>cases h
 |cons c R=>rw[uv (uK c R)]at h;cases h;rfl
theorem mF(as:∀a b c,op (op a b) c=op a (op b c))(lu:∀a,op u a=a)(ru:∀a,op a u=a){R:List Pt}{z q y:Pt}{i:Nat}(hz:R.getLast?=some z)(hq:R[i]?=some q)(hy:((R.take i).getLast?.or R.getLast?)=some y):
  bf op u f z (R.take (i+1))=op (bf op u f z (R.take i)) (f y q):=by
 rw[uq,hq,uw,gj as lu ru];congr 2;cases e:(R.take i).getLast? with
 |some x=>rw[e]at hy;cases hy;rfl
 |none=>rw[e,hz]at hy;cases hy;rfl
end
noncomputable def iF(R:List Pt):List Pt:=bK (·++·) [] ups R
theorem kZ(w h:Nat):∀(R:List Pt)(z:Pt),cv w h (bf (·++·) [] ups z R)=bf (·^^^·) 0 (fX w h) z R
 | [],_=>rfl
 |p::R,z=>by show cv w h (ups z p++bf (·++·) [] ups p R)=fX w h z p^^^_;rw[dP,kZ w h R p];rfl
theorem md(w h:Nat)(R:List Pt):cv w h (iF R)=bK (·^^^·) 0 (fX w h) R:=by
 cases R with
 |nil=>rfl
 |cons c R=>have e:=uv (uK c R);unfold iF;rw[d7 e,d7 e,kZ]
noncomputable def cro(a b:Pt):Int:=a.1*b.2-b.1*a.2
noncomputable def fk(R:List Pt):Int:=bK (·+·) 0 cro R
theorem oU{a b:Pt}(ha: -20<=a.2/\a.2<=20)(hb: -20<=b.2/\b.2<=20):(ups a b).length<=40:=by
 unfold ups;split
 ·rw[tX,ve];omega
 ·exact uJ _
section
variable{A:Type}{op:A->A->A}{u:A}{f:Pt->Pt->A}
noncomputable def lstP(R:List Pt):Pt:=R.getLast?.getD (0,0)
theorem jC(R:List Pt):bK op u f R=bf op u f (lstP R) R:=by
 cases R with
 |nil=>rfl
 |cons c R=>have e:=uv (uK c R);unfold lstP;rw[d7 e,e];rfl
theorem jI(as:∀a b c,op (op a b) c=op a (op b c))(lu:∀a,op u a=a)(ru:∀a,op a u=a){R:List Pt}{q y:Pt}{i:Nat}(hq:R[i]?=some q)(hy:((R.take i).getLast?.or R.getLast?)=some y):
  bf op u f (lstP R) (R.take (i+1))=op (bf op u f (lstP R) (R.take i)) (f y q):=by
 cases R with
 |nil=>cases hq
 |cons c R=>
  have e:=uv (uK c R);have:(c::R).getLast?=some (lstP (c::R)):=by unfold lstP;rw[e];rfl
  exact mF as lu ru this hq hy
theorem jJ{n:Nat}{g:Pt->Pt->List Pt}{B:Pt->Prop}(hg:∀a b,B a->B b->(g a b).length<=n):∀(R:List Pt)(z:Pt),B z->(∀p∈R,B p)->(bf (·++·) [] g z R).length<=n*R.length
 | [],_,_,_=>uJ _
 |p::R,z,hz,hR=>by have h1:=hg z p hz (hR p (tY ..));have h2:=jJ hg R p (hR p (tY ..)) fun q hq=>hR q (t6 _ hq);show(g z p++bf (·++·) [] g p R).length<=n*(R.length+1);rw[uA,Nat.mul_add];omega
theorem nX{R:List Pt}{i:Nat}{q:Pt}(h:R[i]?=some q):lstP R∈R:=by
 cases R with
 |nil=>cases h
 |cons c R=>unfold lstP;rw[uv (uK c R)];exact List.getLast_mem _
end
end LO
namespace L2
open PySem PySem.Spec PyProof.Rows
theorem jr(a:Nat):∀b:Nat,(a^^^b)+(a&&& b)=a|||b:=by
 induction a using Nat.strongRecOn with
 |_ a ih=>
  intro b;by_cases h:a=0
  ·subst h;simp
  ·have e:=ih (a / 2) (by omega) (b / 2);have h1:(a^^^b) / 2=a / 2^^^b / 2:=Nat.xor_div_two ..;have h2:(a&&& b) / 2=a / 2&&& b / 2:=Nat.and_div_two ..;have h3:(a|||b) / 2=a / 2|||b / 2:=Nat.or_div_two ..;have k1:(a^^^b) % 2=(a % 2)^^^(b % 2):=Nat.xor_mod_two_pow (n:=1);have k2:(a&&& b) % 2=(a % 2)&&& (b % 2):=Nat.and_mod_two_pow (n:=1);have k3:(a|||b) % 2=(a % 2)|||(b % 2):=Nat.or_mod_two_pow (n:=1);rw[<-h1,<-h2,<-h3]at e;have k:((a^^^b) % 2)+((a&&& b) % 2)=(a|||b) % 2:=by
    rw[k1,k2,k3];rcases Nat.mod_two_eq_zero_or_one a with x|x<;>rcases Nat.mod_two_eq_zero_or_one b with y|y<;>rw[x,y]<;>decide
   omega
theorem oI(a b:Nat):Builtin.bitXor (a:Int) (b:Int)=((a^^^b:Nat):Int):=by show Builtin.bitOr (a:Int) b-Builtin.bitAnd (a:Int) b=_;rw[My.iy,My.gL,<-jr];omega
end L2
namespace LO
noncomputable abbrev Bx:=Int×Int×Int×Int
noncomputable def ba(tu:Bool)(B:Bx):List Pt:=if tu=true then[(B.1,B.2.1),(B.1,B.2.2.2),(B.2.2.1,B.2.2.2),(B.2.2.1,B.2.1)]else[(B.1,B.2.1),(B.2.2.1,B.2.1),(B.2.2.1,B.2.2.2),(B.1,B.2.2.2)]
structure oH(w h:Int)(B:Bx):Prop where
 x0:0<=B.1
 x1:B.1<B.2.2.1
 x2:B.2.2.1<=w
 y0:0<=B.2.1
 y1:B.2.1<B.2.2.2
 y2:B.2.2.2<=h
noncomputable def inB(B:Bx)(x y:Int):Bool:=decide (B.1<=x)&&decide (x<B.2.2.1)&&(decide (B.2.1<=y)&&decide (y<B.2.2.2))
structure qE(w h:Int)(Bs:List Bx):Prop where
 ne:Bs≠[]
 len:Bs.length<=2
 ok:∀B∈Bs,oH w h B
 fst:∀B∈Bs,∀C∈Bs,B.1=C.1/\B.2.1=C.2.1
noncomputable def pH(w h:Nat)(Bs:List Bx):Nat:=LM.bZ 0 ((List.range (w*h)).filter fun k=>dg (fun B=>inB B ((k % w:Nat):Int) ((k / w:Nat):Int)) Bs)
section
variable{A:Type}{op:A->A->A}{u:A}{f:Pt->Pt->A}
theorem jK(as:∀a b c,op (op a b) c=op a (op b c))(lu:∀a,op u a=a):∀(X Y:List Pt)(z:Pt),bf op u f z (X++Y)=op (bf op u f z X) (bf op u f (X.getLast?.getD z) Y)
 | [],Y,z=>(lu _).symm
 |p::X,Y,z=>by
  have e:(p::X).getLast?.getD z=X.getLast?.getD p:=by
   cases X with
   |nil=>rfl
   |cons x X=>rw[List.getLast?_cons_cons,uv (uK x X)];rfl
  show op (f z p) (bf op u f p (X++Y))=op (op (f z p) (bf op u f p X)) _;rw[jK as lu X Y p,as,e]
theorem fq(as:∀a b c,op (op a b) c=op a (op b c))(cm:∀a b,op a b=op b a)(lu:∀a,op u a=a)(c:Pt)(X Y:List Pt):bK op u f (c::X++c::Y)=op (bK op u f (c::X)) (bK op u f (c::Y)):=by
 have eX:=uv (uK c X);have eY:=uv (uK c Y);have eXY:(c::X++c::Y).getLast?=some ((c::Y).getLast (uK c Y)):=by rw[List.getLast?_append,eY];rfl
 rw[d7 eX,d7 eY,d7 eXY,jK as lu,eX];generalize (c::X).getLast (uK c X)=a;generalize (c::Y).getLast (uK c Y)=b;show op (op (f b c) (bf op u f c X)) (op (f a c) (bf op u f c Y))=op (op (f a c) (bf op u f c X)) (op (f b c) (bf op u f c Y));generalize f b c=p;generalize f a c=q;generalize bf op u f c X=x;generalize bf op u f c Y=y;rw[as,as,<-as x q y,cm x q,<-as p (op q x) y,<-as p q x,cm p q,as q p x,cm p x,as q _ y,as x p y]
end
theorem oX(w h:Nat)(a b:Pt):bK (·^^^·) 0 (fX w h) [a,b]=0:=by
 show fX w h b a^^^(fX w h a b^^^0)=0;have:ups b a=ups a b:=by
  unfold ups;by_cases z:b.1=a.1
  ·rw[tU z,tU z.symm,z,Int.max_comm,Int.min_comm]
  ·rw[tV z,tV (Ne.symm z)]
 unfold fX;rw[this,Nat.xor_zero,Nat.xor_self]
theorem oY(a b:Pt):fk [a,b]=0:=by show cro b a+(cro a b+0)=0;unfold cro;omega
theorem oE(B:Bx)(tu:Bool):fk (ba tu B)=if tu=true then-(2*(B.2.2.1-B.1)*(B.2.2.2-B.2.1))else 2*(B.2.2.1-B.1)*(B.2.2.2-B.2.1):=by
 obtain⟨l,b,r,t⟩:=B;cases tu with
 |true=>show cro (r,b) (l,b)+(cro (l,b) (l,t)+(cro (l,t) (r,t)+(cro (r,t) (r,b)+0)))= -(2*(r-l)*(t-b));unfold cro;grind
 |false=>show cro (l,t) (l,b)+(cro (l,b) (r,b)+(cro (r,b) (r,t)+(cro (r,t) (l,t)+0)))=2*(r-l)*(t-b);unfold cro;grind
theorem iI{w h:Nat}{x y:Int}{k:Nat}:∀n:Nat,(cv w h ((List.range n).map fun j:Nat=>(x,y+(j:Int)))).testBit k=(decide (k<w*h)&&(decide (x<=((k % w:Nat):Int))&&(decide (y<=((k / w:Nat):Int))&&decide (((k / w:Nat):Int)<y+n))))
 | 0=>by
  show(0:Nat).testBit k=_;rw[Nat.zero_testBit];by_cases z:y<=((k / w:Nat):Int)
  ·rw[tQ (show ¬((k / w:Nat):Int)<y+((0:Nat):Int) by omega),vh,vh,vh]
  ·rw[tQ z,vI,vh,vh]
 |n+1=>by
  rw[vB,uZ,dP,Nat.testBit_xor,iI n,uO,List.map_nil,eN,jh];generalize ((k / w:Nat):Int)=Y;generalize ((k % w:Nat):Int)=X;by_cases a:k<w*h
  ·by_cases b:x<=X
   ·rw[tS a,tS b];simp only[Bool.true_and,Bool.and_true];by_cases c:Y=y+(n:Int)
    ·rw[tS c,tQ (show ¬Y<y+(n:Int) by omega),tS (show y<=Y by omega),tS (show Y<y+((n+1:Nat):Int) by omega)];rfl
    ·rw[tQ c,Bool.xor_false];congr 1;exact decide_eq_decide.mpr ⟨fun z=>by omega,fun z=>by omega⟩
   ·rw[tQ b];simp
  ·rw[tQ a];simp
noncomputable def bmk(w h:Nat)(tu:Bool)(B:Bx):Nat:=bK (·^^^·) 0 (fX w h) (ba tu B)
theorem nc{w h:Nat}{x y z:Int}{k:Nat}(hz:y<z):(fX w h (x,y) (x,z)).testBit k=(decide (k<w*h)&&(decide (x<=((k % w:Nat):Int))&&(decide (y<=((k / w:Nat):Int))&&decide (((k / w:Nat):Int)<z)))):=by unfold fX;have:=eH x y (z-y).toNat;rw[show y+(((z-y).toNat:Nat):Int)=z by omega]at this;rw[this,iI,show y+(((z-y).toNat:Nat):Int)=z by omega]
theorem oz{w h:Nat}{x y z:Int}{k:Nat}(hz:y<z):(fX w h (x,z) (x,y)).testBit k=(decide (k<w*h)&&(decide (x<=((k % w:Nat):Int))&&(decide (y<=((k / w:Nat):Int))&&decide (((k / w:Nat):Int)<z)))):=by unfold fX;have:=fY x z (z-y).toNat;rw[show z-(((z-y).toNat:Nat):Int)=y by omega]at this;rw[this,iI,show y+(((z-y).toNat:Nat):Int)=z by omega]
theorem qb{w h:Nat}{a b:Pt}(e:a.1≠b.1):fX w h a b=0:=by unfold fX;rw[lp e];rfl
theorem qj{w h:Nat}{tu:Bool}{B:Bx}{w' h':Int}(ok:oH w' h' B){k:Nat}:(bmk w h tu B).testBit k=(decide (k<w*h)&&inB B ((k % w:Nat):Int) ((k / w:Nat):Int)):=by
 obtain⟨l,b,r,t⟩:=B;have hx:l<r:=ok.x1;have hy:b<t:=ok.y1;have fin:∀X Y:Int,Bool.xor (decide (k<w*h)&&(decide (l<=X)&&(decide (b<=Y)&&decide (Y<t)))) (decide (k<w*h)&&(decide (r<=X)&&(decide (b<=Y)&&decide (Y<t))))=(decide (k<w*h)&&inB (l,b,r,t) X Y):=fun X Y=>by
  show _=(_&&(decide (l<=X)&&decide (X<r)&&(decide (b<=Y)&&decide (Y<t))));generalize (decide (b<=Y)&&decide (Y<t))=v;generalize decide (k<w*h)=u;by_cases z:r<=X
  ·rw[tS z,tS (show l<=X by omega),tQ (show ¬X<r by omega)];cases u<;>cases v<;>rfl
  ·rw[tQ z,tS (show X<r by omega)];generalize decide (l<=X)=x;cases u<;>cases v<;>cases x<;>rfl
 unfold bmk;cases tu with
 |true=>show(fX w h (r,b) (l,b)^^^(fX w h (l,b) (l,t)^^^(fX w h (l,t) (r,t)^^^(fX w h (r,t) (r,b)^^^0)))).testBit k=_;rw[qb (a:=(r,b)) (b:=(l,b)) (by show r≠l;omega),qb (a:=(l,t)) (b:=(r,t)) (by show l≠r;omega),vF,vF,Nat.xor_zero,Nat.testBit_xor,nc hy,oz hy];exact fin _ _
 |false=>show(fX w h (l,t) (l,b)^^^(fX w h (l,b) (r,b)^^^(fX w h (r,b) (r,t)^^^(fX w h (r,t) (l,t)^^^0)))).testBit k=_;rw[qb (a:=(l,b)) (b:=(r,b)) (by show l≠r;omega),qb (a:=(r,t)) (b:=(l,t)) (by show r≠l;omega),vF,Nat.xor_zero,Nat.xor_zero,Nat.testBit_xor,nc hy,oz hy];exact fin _ _
theorem eJ(tu:Bool)(B:Bx):∃X,ba tu B=(B.1,B.2.1)::X:=by cases tu<;>exact⟨_,rfl⟩
section
variable{A:Type}{op:A->A->A}{u:A}{f:Pt->Pt->A}
theorem eI(as:∀a b c,op (op a b) c=op a (op b c))(cm:∀a b,op a b=op b a)(lu:∀a,op u a=a)(tu:Bool)(c:Pt):∀(Bs:List Bx),(∀B∈Bs,(B.1,B.2.1)=c)->bK op u f (Bs.map (ba tu)).flatten=(Bs.map fun B=>bK op u f (ba tu B)).foldr op u
 | [],_=>rfl
 | [B],_=>by show bK op u f (ba tu B++[])=op _ u;rw[uN,cm,lu]
 |B::C::Bs,h=>by
  have ih:=eI as cm lu tu c (C::Bs) fun D hD=>h D (t6 _ hD);obtain⟨X,eX⟩:=eJ tu B;obtain⟨Y,eY⟩:=eJ tu C;rw[h B (tY ..)]at eX;rw[h C (by simp)]at eY;show bK op u f (ba tu B++(ba tu C++_))=op _ _;rw[eX,eY];refine(fq as cm lu c X (Y++(Bs.map (ba tu)).flatten)).trans ?_;have e2:bK op u f (c::(Y++(Bs.map (ba tu)).flatten))=((C::Bs).map fun B=>bK op u f (ba tu B)).foldr op u:=by refine Eq.trans ?_ ih;show _=bK op u f (ba tu C++_);rw[eY];rfl
  rw[e2,<-eX]
end
theorem fV:∀(l k:List Nat),cq (l++k)=cq l^^^cq k
 | [],k=>(vF _).symm
 |a::l,k=>by show a^^^cq (l++k)=(a^^^cq l)^^^cq k;rw[fV l k,Nat.xor_assoc]
theorem jq(k:Nat):∀l:List Nat,(cq l).testBit k=dg (fun n=>n.testBit k) l
 | []=>Nat.zero_testBit k
 |a::l=>by show(a^^^cq l).testBit k=_;rw[Nat.testBit_xor,jq k l];rfl
theorem qZ{w h:Nat}{w' h':Int}{l:List (Bool×Bx)}(ok:∀z∈l,oH w' h' z.2):cq (l.map fun z=>bmk w h z.1 z.2)=pH w h (l.map (·.2)):=by
 refine Nat.eq_of_testBit_eq fun k=>?_;rw[jq];have e:dg (fun n:Nat=>n.testBit k) (l.map fun z=>bmk w h z.1 z.2)=(decide (k<w*h)&&dg (fun B=>inB B ((k % w:Nat):Int) ((k / w:Nat):Int)) (l.map (·.2))):=by
  induction l with
  |nil=>exact(vh _).symm
  |cons z l ih=>show Bool.xor ((bmk w h z.1 z.2).testBit k) (dg _ (l.map _))=(_&&Bool.xor (inB z.2 _ _) (dg _ (l.map _)));rw[ih fun y hy=>ok y (t6 _ hy),qj (ok z (tY ..))];cases decide (k<w*h)<;>rfl
 rw[e,pH,uT,LM.dh,List.mem_filter,uU];simp only[va,uE]
end LO
namespace L2
open PySem PySem.Spec PyProof.Rows
open LO LT
def kW(K:Frag)(H:Hp)(t:Addr)(B:Bx):Prop:=SqT K H t [.int B.1,.int B.2.1,.int B.2.2.1,.int B.2.2.2]
def dG(K:Frag)(H:Hp)(v:V)(B:Bx):Prop:=∃t,v=.ref t/\kW K H t B
section
variable{K:Frag}{H H':Hp}{t:Addr}{v:V}{B:Bx}
theorem kW.tk(k:TK H H')(h:kW K H t B):kW K H' t B:=k.sq h
theorem dG.tk(k:TK H H')(h:dG K H v B):dG K H' v B:=by obtain⟨t,rfl,h⟩:=h;exact⟨t,rfl,h.tk k⟩
end
end L2
namespace LO
theorem gv{α:Type}(p:α->Bool):∀l:List α,dg p l=decide (((l.countP p:Nat):Int) % 2=1)
 | []=>rfl
 |a::l=>by
  rw[cI,gv p l,List.countP_cons];cases p a with
  |true=>
   by_cases z:((l.countP p:Nat):Int) % 2=1
   ·rw[tS z];exact(tQ (by simp only[if_true];omega)).symm
   ·rw[tQ z];exact(tS (by simp only[if_true];omega)).symm
  |false=>simp
theorem mI{p:Nat->Bool}{k:Nat}:LM.bZ 0 ((List.range k).filter p++[k])=LM.bZ 0 ((List.range k).filter p)+2^k:=by
 have h:(LM.bZ 0 ((List.range k).filter p)).testBit k=false:=by
  cases z:(LM.bZ 0 ((List.range k).filter p)).testBit k with
  |false=>rfl
  |true=>have:=(List.mem_filter.mp (LM.dh.mp z)).1;rw[uU]at this;omega
 refine Nat.eq_of_testBit_eq fun t=>?_;rw[L2.ql h,uT,LM.dh,ub,ua,Bool.or_eq_true,LM.dh,uE]
noncomputable def cC(Bs:List Bx):Int:=(Bs.map fun B=>2*(B.2.2.1-B.1)*(B.2.2.2-B.2.1)).foldr (·+·) 0
theorem j8:∀(Bs:List Bx)(B:Bx),cC (Bs++[B])=cC Bs+2*(B.2.2.1-B.1)*(B.2.2.2-B.2.1)
 | [],B=>by show _+0=0+_;rw[Int.add_zero,Int.zero_add]
 |C::Bs,B=>by have:=j8 Bs B;show _+cC (Bs++[B])=(_+cC Bs)+_;rw[this,Int.add_assoc]
structure RgB(w h:Nat)(tu:Bool)(Bs:List Bx)(R:List Pt):Prop where
 x:bK (·^^^·) 0 (fX w h) R=cq (Bs.map (bmk w h tu))
 a:fk R=if tu=true then-cC Bs else cC Bs
 hd:∃c Y,R=c::Y/\0<=c.2/\0<=c.1/\c.1<=8
 len:R.length<=8
 pb:∀p∈R,-20<=p.1/\p.1<=20/\ -20<=p.2/\p.2<=20
section
variable{w h:Nat}{tu:Bool}{Bs:List Bx}{R:List Pt}
theorem p9(hw:w<=8)(hh:h<=8)(ok:qE w h Bs):RgB w h tu Bs (Bs.map (ba tu)).flatten:=by
 obtain⟨B,Cs,rfl⟩:∃B Cs,Bs=B::Cs:=by
  cases Bs with
  |nil=>exact(ok.ne rfl).elim
  |cons B Cs=>exact⟨B,Cs,rfl⟩
 have one:∀C∈B::Cs,(C.1,C.2.1)=(B.1,B.2.1):=fun C hC=>by obtain⟨e1,e2⟩:=ok.fst C hC B (tY ..);rw[e1,e2]
 have okB:=ok.ok B (tY ..);refine⟨?_,?_,?_,?_,?_⟩
 ·exact eI Nat.xor_assoc Nat.xor_comm vF tu (B.1,B.2.1) _ one
 ·have e:=eI (op:=(·+·)) (u:=(0:Int)) (f:=cro) Int.add_assoc Int.add_comm Int.zero_add tu (B.1,B.2.1) _ one;unfold fk;rw[e];clear e one ok okB;generalize B::Cs=Ds
  induction Ds with
  |nil=>cases tu<;>rfl
  |cons D Ds ih=>
   have ad:=oE D tu;unfold fk at ad;rw[uO,List.foldr_cons,ad];show _+List.foldr _ _ _=_;rw[ih];show _=if tu=true then-(_+cC Ds)else(_+cC Ds)
   cases tu with
   |true=>simp only[if_true];omega
   |false=>rfl
 ·obtain⟨X,eX⟩:=eJ tu B;refine⟨(B.1,B.2.1),X++(Cs.map (ba tu)).flatten,?_,okB.y0,okB.x0,?_⟩
  ·show ba tu B++_=_;rw[eX];rfl
  ·have:=okB.x1;have:=okB.x2;show B.1<=8;omega
 ·have l4:∀B,(ba tu B).length=4:=fun B=>by cases tu<;>rfl
  have:=ok.len
  match Cs,this with
  | [],_=>show(ba tu B++[]).length<=8;rw[uN,l4];omega
  | [C],_=>show(ba tu B++(ba tu C++[])).length<=8;rw[uN,uA,l4,l4];omega
  |_::_::_,z=>simp at z
 ·intro p hp;obtain⟨l,hl,hp⟩:=List.mem_flatten.mp hp;obtain⟨C,hC,rfl⟩:=uu.mp hl;have o:=ok.ok C hC;have:=o.x0;have:=o.x1;have:=o.x2;have:=o.y0;have:=o.y1;have:=o.y2;have:(p.1=C.1\/p.1=C.2.2.1)/\(p.2=C.2.1\/p.2=C.2.2.2):=by
   cases tu<;>(simp[ba]at hp;rcases hp with rfl|rfl|rfl|rfl<;>simp)
  omega
structure RgC(w h:Nat)(tu:Bool)(Bs:List Bx)(R:List Pt):Prop where
 x:bK (·^^^·) 0 (fX w h) R=cq (Bs.map (bmk w h tu))
 a:fk R=if tu=true then-cC Bs else cC Bs
 len:R.length<=10
 pb:∀p∈R,-20<=p.1/\p.1<=20/\ -20<=p.2/\p.2<=20
theorem RgB.c(r:RgB w h tu Bs R):RgC w h tu Bs R:=⟨r.x,r.a,by have:=r.len;omega,r.pb⟩
theorem RgB.spike{c:Pt}{Y:List Pt}{y:Int}(r:RgB w h tu Bs R)(e:R=c::Y)(y0:0<=y)(y1:y<=8):RgC w h tu Bs ([c,(c.1,y)]++R):=by
 have pc:=r.pb c (by rw[e];exact tY ..);refine⟨?_,?_,?_,?_⟩
 ·rw[<-r.x,e];refine(fq Nat.xor_assoc Nat.xor_comm vF c [(c.1,y)] Y).trans ?_;rw[oX,vF]
 ·rw[<-r.a,e];refine(fq (op:=(·+·)) (u:=(0:Int)) (f:=cro) Int.add_assoc Int.add_comm Int.zero_add c [(c.1,y)] Y).trans ?_;have:=oY c (c.1,y);unfold fk at this ⊢;rw[this,Int.zero_add]
 ·rw[uA];have:=r.len;show 2+_<=10;omega
 ·intro p hp;rcases ub.mp hp with z|z
  ·rcases uy.mp z with z|z
   ·rw[z];exact pc
   ·rw[ua.mp z];exact⟨pc.1,pc.2.1,by show-20<=y;omega,by show y<=20;omega⟩
  ·exact r.pb p z
end
end LO
namespace L2
open PySem PySem.Spec PyProof.Rows
open LO LT
theorem none_of{H H':Hp}{l:Addr}(s:aq H H')(h:H' l=none):H l=none:=by
 cases z:H l with
 |none=>rfl
 |some o=>rw[s _ _ z]at h;cases h
noncomputable def gh(R:List Pt):PyData:=.list (R.map fun p=>c4 [.inl p.1,.inl p.2])
theorem nC{K:Frag}{H:Hp}{xs:List V}{R:List Pt}(hI:Paired (PtE K H) xs R):fC K H (R.map fun p=>c4 [.inl p.1,.inl p.2]) xs:=by
 induction hI with
 |nil=>exact .nil
 |cons a b ih=>obtain⟨t,rfl,h⟩:=a;exact .cons (rp h) (ih)
theorem dN.isD{K:Frag}{H:Hp}{b:Addr}{R:List Pt}(h:dN K H b R):IsD K H (gh R) (.ref b):=by obtain⟨xs,h1,h2⟩:=h;exact .lst (SqL.of h1) (nC h2)
theorem e8(R:List Pt):(gh R).canLay0=true:=by
 show PyData.canLayAll0 _=true
 induction R with
 |nil=>rfl
 |cons p R ih=>exact ih
theorem hJ{K:Frag}{H:Hp}{xs:List V}{Rs:List (List Pt)}(hI:Paired (oF K H) xs Rs):fC K H (Rs.map gh) xs:=by
 induction hI with
 |nil=>exact .nil
 |cons a b ih=>obtain⟨t,rfl,h⟩:=a;exact .cons h.isD (ih)
theorem ft(Rs:List (List Pt)):(PyData.list (Rs.map gh)).canLay0=true:=by
 show PyData.canLayAll0 _=true
 induction Rs with
 |nil=>rfl
 |cons R Rs ih=>show((gh R).canLay0&&PyData.canLayAll0 (Rs.map gh))=true;rw[e8,ih];rfl
theorem jH(R:List Pt):(gh R).depth<=3:=by
 show PyData.depthAll _+1<=3;have:PyData.depthAll (R.map fun p=>c4 [.inl p.1,.inl p.2])<=1:=by
  induction R with
  |nil=>decide
  |cons p R ih=>show max (PyData.depth (c4 [.inl p.1,.inl p.2])) (PyData.depthAll (R.map fun p=>c4 [.inl p.1,.inl p.2]))<=1;have h2:PyData.depth (c4 [.inl p.1,.inl p.2])=1:=rfl;omega
 omega
theorem mw(Rs:List (List Pt)):(PyData.list (Rs.map gh)).depth<=50:=by
 show PyData.depthAll _+1<=50;have:PyData.depthAll (Rs.map gh)<=3:=by
  induction Rs with
  |nil=>decide
  |cons R Rs ih=>show max (gh R).depth (PyData.depthAll (Rs.map gh))<=3;have:=jH R;omega
 omega
def RnE(lb ls:Addr)(K:Frag)(H:Hp)(v:V)(R:List Pt):Prop:=∃b,v=.ref b/\b≠lb/\b≠ls/\dN K H b R
section
variable{K:Frag}{H H':Hp}{lb ls b p:Addr}{v:V}{R:List Pt}
theorem RnE.same(s:aq H H')(h:RnE lb ls K H v R):RnE lb ls K H' v R:=by obtain⟨b,rfl,n1,n2,h⟩:=h;exact⟨b,rfl,n1,n2,h.same s⟩
theorem dN.put{xs ys:List V}(n:b≠p)(hl:H p=some (.lst xs))(h:dN K H b R):dN K (upd H p (.lst ys)) b R:=by obtain⟨zs,h1,h2⟩:=h;exact⟨zs,by rw[ax n];exact h1,Paired.imp (fun _ _ z=>PtE.tk (TK.lst hl) z) h2⟩
theorem RnE.putB{xs ys:List V}(hl:H lb=some (.lst xs))(h:RnE lb ls K H v R):RnE lb ls K (upd H lb (.lst ys)) v R:=by obtain⟨b,rfl,n1,n2,h⟩:=h;exact⟨b,rfl,n1,n2,h.put n1 hl⟩
theorem RnE.putS{xs ys:List V}(hl:H ls=some (.lst xs))(h:RnE lb ls K H v R):RnE lb ls K (upd H ls (.lst ys)) v R:=by obtain⟨b,rfl,n1,n2,h⟩:=h;exact⟨b,rfl,n1,n2,h.put n2 hl⟩
theorem RnE.rng(h:RnE lb ls K H v R):oF K H v R:=by obtain⟨b,rfl,_,_,h⟩:=h;exact⟨b,rfl,h⟩
end
end L2
namespace My
open PySem L2 LM PyProof.Rows
noncomputable abbrev Pg:Program:=PySem.Challenge.rw_landroll_k18_cells_back_from_rings.prog
noncomputable def top(i:Nat):Stmt:=PySem.Challenge.pw_landroll_k18_cells_back_from_rings.main.body.getD i (.Pass ⟨0,0,0,0⟩)
section
set_option maxHeartbeats 4000000
local macro_rules
 | `(tactic|trivial)=> `(tactic|first|exact Or.inl rfl|exact Or.inr rfl|decide+kernel|exact⟨rfl,rfl,rfl,by decide+kernel,rfl,by decide+kernel,by decide+kernel⟩)
variable{P:Program}{w:World}{K:Frag}{mg:Str->Option Value}{base:Heap}
variable(B:Bn mg)
def jA(K:Frag):Sp:=fun vs H Q _=>∃(a:Addr)(w h:Nat),vs=[.ref a]/\SqT K H a [.int w,.int h]/\(w<=8/\h<=8)/\Q (.int ((2^(w*h)-1:Nat))) H
variable(fT:Df P w K mg base 1 "every" ["floor"] (jA K))
theorem ny:aD ["floor"] ["floor"] (av (top 1)):=by trivial
include B in
theorem nR(T:Tx K mg "every" (top 1) ["floor"]):Df P w K mg base 1 "every" ["floor"] (jA K):=by
 refine T.df ny (by rintro _ _ _ _ ⟨a,w,h,rfl,hT,⟨hw8,hh8⟩,q⟩;rfl) ?_;rintro f _ A _ s H _ Q E hr ⟨a,w,h,rfl,hT,⟨hw8,hh8⟩,q⟩;refine⟨_,(aj (aF (ai a7 (ai dz ab (ai cY (ay au (pv 0) ab (fun _ _=>rfl)) (ay au (pv 0) ab (fun _ _=>rfl)))) ab))),?_⟩;have hwh:w*h<=64:=Nat.mul_le_mul hw8 hh8;have e1:((w:Int)*(h:Int))=((w*h:Nat):Int):=by simp
 refine⟨_,rfl,a,_,_,_,rfl,rfl,hT,rfl,_,rfl,a,_,_,_,rfl,rfl,hT,rfl,_,_,rfl,rfl,.inl ⟨by omega,by omega⟩,_,_,rfl,rfl,⟨by omega,by omega,by decide⟩,_,_,rfl,rfl,?_⟩;have e:(1:Int)*2^(((w:Int)*(h:Int))).toNat-1=((2^(w*h)-1:Nat):Int):=by rw[e1,gm];have:=Nat.two_pow_pos (w*h);omega
 simp only[e];exact q
def nu(K:Frag):Sp:=fun vs H Q _=>∃(c:Nat)(k:Int),vs=[.int c,.int k]/\Q (.bl (decide (0<=k)&&c.testBit k.toNat)) H
variable(lY:Df P w K mg base 1 "has" ["cells","cell"] (nu K))
theorem qK:aD ["cells","cell"] ["cells","cell"] (av (top 2)):=by trivial
include B in
theorem qY(T:Tx K mg "has" (top 2) ["cells","cell"]):Df P w K mg base 1 "has" ["cells","cell"] (nu K):=by
 refine T.df qK (by rintro _ _ _ _ ⟨c,k,rfl,q⟩;rfl) ?_;rintro f _ A _ s H _ Q E hr ⟨c,k,rfl,q⟩;refine⟨_,(aj (aF (iP (b9 qy (pv 1) ab (aJ _)) (fu (b9 bS (ai nN (ai qV (pv 0) (pv 1)) ab) ab (aJ _)))))),?_⟩;refine⟨_,rfl,_,_,rfl,rfl,_,rfl,?_⟩;refine bx (fun h0=>?_) (fun h0=>?_)
 ·have h0':0<=k:=vd h0;refine⟨_,rfl,_,rfl,_,_,rfl,rfl,h0',_,_,rfl,rfl,rfl,?_⟩;rw[rq c k h0'];exact q
 ·have e:decide (0<=k)=false:=by simpa using h0
  rw[e]at q;exact q
def eW(K:Frag):Sp:=fun vs H Q _=>∃(a:Addr)(w h k:Int),vs=[.ref a,.int k]/\SqT K H a [.int w,.int h]/\(0<w/\w<1073741824)/\Q (.int (k % w)) H
variable(bA:Df P w K mg base 1 "column_of" ["floor","cell"] (eW K))
theorem iK:aD ["floor","cell"] ["floor","cell"] (av (top 4)):=by trivial
include B in
theorem iV(T:Tx K mg "column_of" (top 4) ["floor","cell"]):Df P w K mg base 1 "column_of" ["floor","cell"] (eW K):=by refine T.df iK (by rintro _ _ _ _ ⟨a,w,h,k,rfl,hT,hw,q⟩;rfl) ?_;rintro f _ A _ s H _ Q E hr ⟨a,w,h,k,rfl,hT,hw,q⟩;refine⟨_,(aj (aF (ai aI (pv 1) (ay au (pv 0) ab (fun _ _=>rfl))))),?_⟩;exact⟨_,rfl,_,rfl,a,_,_,_,rfl,rfl,hT,rfl,_,_,rfl,rfl,hw.1,q⟩
def g7(K:Frag):Sp:=fun vs H Q _=>∃(a:Addr)(w h k:Int),vs=[.ref a,.int k]/\SqT K H a [.int w,.int h]/\(0<w/\w<1073741824)/\Q (.int (k / w)) H
variable(cN:Df P w K mg base 1 "row_of" ["floor","cell"] (g7 K))
theorem mq:aD ["floor","cell"] ["floor","cell"] (av (top 5)):=by trivial
include B in
theorem mJ(T:Tx K mg "row_of" (top 5) ["floor","cell"]):Df P w K mg base 1 "row_of" ["floor","cell"] (g7 K):=by refine T.df mq (by rintro _ _ _ _ ⟨a,w,h,k,rfl,hT,hw,q⟩;rfl) ?_;rintro f _ A _ s H _ Q E hr ⟨a,w,h,k,rfl,hT,hw,q⟩;refine⟨_,(aj (aF (ai aQ (pv 1) (ay au (pv 0) ab (fun _ _=>rfl))))),?_⟩;exact⟨_,rfl,_,rfl,a,_,_,_,rfl,rfl,hT,rfl,_,_,rfl,rfl,hw,q⟩
def f7(K:Frag):Sp:=fun vs H Q _=>∃(b:Addr)(s:LO.Sd),vs=[.ref b]/\LT.cR K H b s/\∀l H',aq H H'->SqT K H' l [.int s.d.dx,.int s.d.dy]->Q (.ref l) H'
variable(bC:Df P w K mg base 1 "step_of" ["side"] (f7 K))
theorem ky:aD ["side"] ["side"] (av (top 9)):=by trivial
include B in
theorem kC(T:Tx K mg "step_of" (top 9) ["side"]):Df P w K mg base 1 "step_of" ["side"] (f7 K):=by refine T.df ky (by rintro _ _ _ _ ⟨b,s,rfl,hs,q⟩;rfl) ?_;rintro f _ A _ s H _ Q E hr ⟨b,s,rfl,hs,q⟩;refine⟨_,(aj (aF (aG (aa (ai a7 (ay au (ay au (pv 0) ab (fun _ _=>rfl)) ab (fun _ _=>rfl)) (ay au (ay au (pv 0) ab (fun _ _=>rfl)) ab (fun _ _=>rfl))) (aa (ai a7 (ay au (ay au (pv 0) ab (fun _ _=>rfl)) ab (fun _ _=>rfl)) (ay au (ay au (pv 0) ab (fun _ _=>rfl)) ab (fun _ _=>rfl))) ag))))),?_⟩;obtain⟨p,r,h1,h2,h3⟩:=hs;refine⟨_,rfl,b,_,_,_,rfl,rfl,h1,ak (j:=1) rfl,r,_,_,_,rfl,rfl,h3,ak (j:=0) rfl,_,rfl,b,_,_,_,rfl,rfl,h1,ak (j:=0) rfl,p,_,_,_,rfl,rfl,h2,ak (j:=0) rfl,_,_,rfl,rfl,_,rfl,b,_,_,_,rfl,rfl,h1,ak (j:=1) rfl,r,_,_,_,rfl,rfl,h3,ak (j:=1) rfl,_,rfl,b,_,_,_,rfl,rfl,h1,ak (j:=0) rfl,p,_,_,_,rfl,rfl,h2,ak (j:=1) rfl,_,_,rfl,rfl,az rfl,fun l hl=>?_⟩;exact q l _ (aq.upd hl) (sq2 (SqT.of ae) (by show s.x+s.d.dx-s.x=_;omega) (by show s.y+s.d.dy-s.y=_;omega))
def er(K:Frag):Sp:=fun vs H Q _=>∃(a:Addr)(R:List LO.Pt),vs=[.ref a]/\dN K H a R/\(∀p∈R,-20<=p.1/\p.1<=20/\ -20<=p.2/\p.2<=20)/\∀H',aq H H'->Q (.int (LO.fk R)) H'
variable(cE:Df P w K mg base 1 "twice_area" ["ring"] (er K))
theorem bj:aD ["ring","area","place","point","ahead"] ["ring"] (av (top 14)):=by trivial
include B in
theorem gS(T:Tx K mg "twice_area" (top 14) ["ring"]):Df P w K mg base 1 "twice_area" ["ring"] (er K):=by
 refine T.df bj (by rintro _ _ _ _ ⟨a,R,rfl,hx,pb,q⟩;rfl) ?_;rintro f _ A _ s H _ Q E hr ⟨a,R,rfl,hx,pb,q⟩;refine aW ?_;intro kX;refine ah 2 (aj (aF (pv 1))) ?_;intro kR2 pR2;refine aC 1 1 (aj (ao (i:=1) bj.nd rfl (by trivial) (ai a7 (ai aL (pv 1) (ai cY (ay au (pv 4) ab (fun _ _=>rfl)) (ay au (pv 3) ab (fun _ _=>rfl)))) (ai cY (ay au (pv 3) ab (fun _ _=>rfl)) (ay au (pv 4) ab (fun _ _=>rfl)))))) ?_;intro kS1x1 pS1x1;refine aC 1 0 (af (ao (i:=4) bj.nd rfl (by trivial) (ay cT (pv 0) (ai a7 (pv 2) ab) (fun _ _=>rfl))) pS1x1) ?_;intro kS1x0 pS1x0;refine ah 1 (af (bM uL rfl (gr (by rfl) B.enumerate (aa (pv 0) ag)) (kA rfl (dc (aK (i:=2) bj.nd rfl (by trivial)) (dc (aK (i:=3) bj.nd rfl (by trivial)) iO))) pS1x0) pR2) ?_;intro kR1 pR1;refine⟨_,(af (ao (i:=1) bj.nd rfl (by trivial) ab) pR1),?_⟩;obtain⟨xs,hx,px⟩:=hx;refine⟨_,rfl,a,rfl,⟨_,SqL.of hx⟩,ir (K:=K) (a:=a) (xs:=xs) (fun i σ H2=>∃(o2 o3 o4:Option V),σ=[some (.ref a),some (.int (LO.bf (·+·) 0 LO.cro (LO.lstP R) (R.take i))),o2,o3,o4]/\aq H H2) ⟨none,none,none,rfl,aq.refl _⟩ (fun i σ H2 _ hPz=>hPz.elim fun _ hPz=>hPz.elim fun _ hPz=>hPz.elim fun _ hPz=>(fun z=>SqL.of (z _ _ hx)) (hPz.2)) ?_ ?_⟩
 ·rintro i v σ H2 N hi ⟨o2,o3,o4,rfl,s2⟩ hN;obtain⟨v',q1,q0,a1,hq1,⟨b,rfl,hb⟩,hq0,⟨b',rfl,hb'⟩⟩:=dW px hi;have u3:=aq.upd (o:=.tup [.int (i:Nat),.ref b]) hN;have k3:SqT K (upd H2 N (.tup [.int (i:Nat),.ref b])) N [.int (i:Nat),.ref b]:=SqT.of ae;have s3:=s2.trans u3;generalize (upd H2 N (.tup [.int (i:Nat),.ref b]))=H3 at u3 k3 s3 ⊢;have hb3:=s3.tup hb;have hb3':=s3.tup hb';have st:=LO.jI (op:=(·+·)) (u:=(0:Int)) (f:=LO.cro) (fun _ _ _=>Int.add_assoc ..) (fun _=>Int.zero_add _) (fun _=>Int.add_zero _) hq1 hq0;simp only[st];refine⟨N,_,rfl,k3,rfl,_,_,rfl,_,_,rfl,rfl,?_⟩;refine⟨_,rfl,_,rfl,_,_,rfl,rfl,a,_,_,_,rfl,rfl,SqL.of (s3 _ _ hx),a1,?_⟩;have mq1:q1∈R:=uC hq1;have mq0:q0∈R:=by
   cases e:(R.take i).getLast? with
   |some x=>rw[e]at hq0;cases hq0;exact uI (List.mem_of_getLast? e)
   |none=>rw[e]at hq0;exact List.mem_of_getLast? hq0
  have b1:=pb q1 mq1;have b0:=pb q0 mq0;refine⟨_,rfl,_,rfl,b',_,_,_,rfl,rfl,hb3',ak (j:=0) rfl,_,rfl,b,_,_,_,rfl,rfl,hb3,ak (j:=1) rfl,_,_,rfl,rfl,?_,_,_,rfl,rfl,_,rfl,b,_,_,_,rfl,rfl,hb3,ak (j:=0) rfl,_,rfl,b',_,_,_,rfl,rfl,hb3',ak (j:=1) rfl,_,_,rfl,rfl,?_,_,_,rfl,rfl,?_⟩
  ·exact .inl ⟨by omega,by omega⟩
  ·exact .inl ⟨by omega,by omega⟩
  ·refine⟨some (.int (i:Nat)),some (.ref b),some (.ref b'),?_,s3⟩;show[_,some (V.int (LO.bf (·+·) 0 LO.cro (LO.lstP R) (R.take i)+q0.1*q1.2-q1.1*q0.2)),_,_,_]=_;rw[Int.add_sub_assoc];rfl
 ·rintro σ H2 ⟨o2,o3,o4,rfl,s2⟩;rw[uj px,uG];refine⟨_,rfl,?_⟩;have:=q _ s2;unfold LO.fk at this;rw[LO.jC]at this;exact this
def fG(K:Frag):Sp:=fun vs H Q _=>∃(a:Addr)(R:List LO.Pt),vs=[.ref a]/\dN K H a R/\R.length<=256/\(∀p∈R,-20<=p.1/\p.1<=20/\ -20<=p.2/\p.2<=20)/\∀l ys H',aq H H'->H' l=some (.lst ys)->Paired (PtE K H') ys (LO.iF R)->Q (.ref l) H'
variable(dD:Df P w K mg base 1 "uprights" ["ring"] (fG K))
theorem bR:aD ["ring","found","place","point","ahead","row"] ["ring"] (av (top 15)):=by trivial
include B in
theorem jO(T:Tx K mg "uprights" (top 15) ["ring"]):Df P w K mg base 1 "uprights" ["ring"] (fG K):=by
 refine T.df bR (by rintro _ _ _ _ ⟨a,R,rfl,hx,l256,pb,q⟩;rfl) ?_;rintro f _ A _ s H _ Q E hr ⟨a,R,rfl,hx,l256,pb,q⟩;refine aW ?_;intro kX;refine ah 2 (aj (aF (pv 1))) ?_;intro kR2 pR2;refine aC 1 1 (aj (bD (aP bS (ay au (pv 4) ab (fun _ _=>rfl)) (ay au (pv 3) ab (fun _ _=>rfl)) (aJ _)) (aj (bM uL rfl (mH (by rfl) B.range (aa (cL (m5 rfl) (by rfl) B.min boot_min (aa (ay au (pv 4) ab (fun _ _=>rfl)) (aa (ay au (pv 3) ab (fun _ _=>rfl)) ag))) (aa (cL (m7 rfl) (by rfl) B.max boot_max (aa (ay au (pv 4) ab (fun _ _=>rfl)) (aa (ay au (pv 3) ab (fun _ _=>rfl)) ag))) ag))) (aK (i:=5) bR.nd rfl (by trivial)) (aj (e9 (jN PySem.F.plainAttrs_list vQ vP cJ (pv 1) (aa (aG (aa (ay au (pv 3) ab (fun _ _=>rfl)) (aa (pv 5) ag))) ag)))))) aS)) ?_;intro kS1x1 pS1x1;refine aC 1 0 (af (ao (i:=4) bR.nd rfl (by trivial) (ay cT (pv 0) (ai a7 (pv 2) ab) (fun _ _=>rfl))) pS1x1) ?_;intro kS1x0 pS1x0;refine ah 1 (af (bM uL rfl (gr (by rfl) B.enumerate (aa (pv 0) ag)) (kA rfl (dc (aK (i:=2) bR.nd rfl (by trivial)) (dc (aK (i:=3) bR.nd rfl (by trivial)) iO))) pS1x0) pR2) ?_;intro kR1 pR1;refine⟨_,(af (ao (i:=1) bR.nd rfl (by trivial) (bz ag)) pR1),?_⟩;obtain⟨xs,hx,px⟩:=hx;refine⟨az rfl,fun l hl=>?_⟩;have u1:=aq.upd (o:=.lst []) hl;have k1:(upd H l (.lst [])) l=some (.lst []):=ae;generalize (upd H l (.lst []))=H1 at u1 k1 ⊢;obtain⟨B,eB⟩:∃B:LO.Pt->Prop,B=fun p=>-20<=p.2/\p.2<=20:=⟨_,rfl⟩;have blen:∀i q,R[i]?=some q->(LO.bf (·++·) [] LO.ups (LO.lstP R) (R.take i)).length<=10240:=fun i q hi=>by
  have hB:∀p∈R,B p:=fun p hp=>by rw[eB];exact⟨(pb p hp).2.2.1,(pb p hp).2.2.2⟩
  have:=LO.jJ (n:=40) (g:=LO.ups) (B:=B) (fun a b ha hb=>by rw[eB]at ha hb;exact LO.oU ha hb) (R.take i) (LO.lstP R) (hB _ (LO.nX hi)) fun p hp=>hB p (uI hp);rw[uf]at this;omega
 refine⟨_,rfl,a,rfl,⟨_,SqL.of (u1 _ _ hx)⟩,ir (K:=K) (a:=a) (xs:=xs) (fun i σ H2=>∃(o2 o3 o4 o5:Option V)(ys:List V),σ=[some (.ref a),some (.ref l),o2,o3,o4,o5]/\aq H H2/\H2 l=some (.lst ys)/\Paired (PtE K H2) ys (LO.bf (·++·) [] LO.ups (LO.lstP R) (R.take i))) ⟨none,none,none,none,[],rfl,u1,k1,.nil⟩ (fun i σ H2 _ hPz=>hPz.elim fun _ hPz=>hPz.elim fun _ hPz=>hPz.elim fun _ hPz=>hPz.elim fun _ hPz=>hPz.elim fun _ hPz=>(fun z=>SqL.of (z _ _ hx)) (hPz.2.1)) ?_ ?_⟩
 ·rintro i v σ H2 N hi ⟨o2,o3,o4,o5,ys,rfl,s2,k2,py⟩ hN;obtain⟨v',q1,q0,a1,hq1,⟨b,rfl,hb⟩,hq0,⟨b',rfl,hb'⟩⟩:=dW px hi;have u3:=aq.upd (o:=.tup [.int (i:Nat),.ref b]) hN;have k3:SqT K (upd H2 N (.tup [.int (i:Nat),.ref b])) N [.int (i:Nat),.ref b]:=SqT.of ae;have s3:=s2.trans u3;have l3:=u3 _ _ k2;have py3:=Paired.imp (fun _ _ z=>PtE.tk u3.tk z) py;generalize (upd H2 N (.tup [.int (i:Nat),.ref b]))=H3 at u3 k3 s3 l3 py3 ⊢;have hb3:=s3.tup hb;have hb3':=s3.tup hb';have lps:=blen i q1 hq1;have st:=LO.jI (op:=(·++·)) (u:=[]) (f:=LO.ups) (fun _ _ _=>uk ..) (fun _=>List.nil_append _) (fun _=>uN _) hq1 hq0;have mq1:q1∈R:=uC hq1;have mq0:q0∈R:=by
   cases e:(R.take i).getLast? with
   |some x=>rw[e]at hq0;cases hq0;exact uI (List.mem_of_getLast? e)
   |none=>rw[e]at hq0;exact List.mem_of_getLast? hq0
  have b1:=pb q1 mq1;have b0:=pb q0 mq0;generalize LO.bf (·++·) [] LO.ups (LO.lstP R) (R.take i)=A0 at py3 lps st;simp only[st];refine⟨N,_,rfl,k3,rfl,_,_,rfl,_,_,rfl,rfl,?_⟩;refine⟨_,rfl,_,rfl,_,_,rfl,rfl,a,_,_,_,rfl,rfl,SqL.of (s3 _ _ hx),a1,?_⟩;refine⟨_,rfl,b',_,_,_,rfl,rfl,hb3',ak (j:=0) rfl,_,rfl,b,_,_,_,rfl,rfl,hb3,ak (j:=0) rfl,rfl,_,rfl,?_⟩;refine bx (fun z=>?_) (fun z=>?_)
  ·have ex:q0.1=q1.1:=veq.mp z;have eu:LO.ups q0 q1=(List.range (max q0.2 q1.2-min q0.2 q1.2).toNat).map fun j:Nat=>(q1.1,min q0.2 q1.2+(j:Int)):=tU ex;rw[eu];refine⟨_,rfl,b',_,_,_,rfl,rfl,hb3',ak (j:=1) rfl,_,rfl,b,_,_,_,rfl,rfl,hb3,ak (j:=1) rfl,_,_,rfl,?_⟩;refine⟨_,rfl,b',_,_,_,rfl,rfl,hb3',ak (j:=1) rfl,_,rfl,b,_,_,_,rfl,rfl,hb3,ak (j:=1) rfl,_,_,rfl,?_⟩;have em:(if q1.2<q0.2 then q1.2 else q0.2)=min q0.2 q1.2:=(by omega);have eM:(if q1.2>q0.2 then q1.2 else q0.2)=max q0.2 q1.2:=(by omega);rw[em,eM];generalize emn:min q0.2 q1.2=mn;generalize emx:max q0.2 q1.2=mx;have ln:(mx-mn).toNat<=40:=(by omega);refine⟨_,_,rfl,⟨by omega,by omega,by omega,by omega⟩,?_⟩;refine d8 (lo:=mn) (n:=(mx-mn).toNat) (fun j σ H4=>∃(o5:Option V)(ys:List V),σ=[some (.ref a),some (.ref l),some (.int (i:Nat)),some (.ref b),some (.ref b'),o5]/\aq H H4/\H4 l=some (.lst ys)/\Paired (PtE K H4) ys (A0++(List.range j).map fun j:Nat=>(q1.1,mn+(j:Int)))) ⟨_,ys,rfl,s3,l3,by simpa using py3⟩ ?_ ?_
   ·rintro j σ H4 hj ⟨o5',ys',rfl,s4,l4,py4⟩;refine dj ?_;intro kD1;have lys:ys'.length<sizeLine:=by
     rw[uj py4,uA,tX,ve];exact Nat.lt_of_le_of_lt (show _<=10300 by omega) (by decide)
    refine⟨_,rfl,.inl ⟨rfl,_,SqL.of l4⟩,_,rfl,b,_,_,_,rfl,rfl,s4.tup hb,ak (j:=0) rfl,_,rfl,az rfl,fun t ht=>?_⟩;have u5:=aq.upd (o:=.tup [.int q1.1,.int (mn+(j:Int))]) ht;refine⟨l,_,_,rfl,rfl,u5 _ _ l4,lys,?_⟩;have tk:=TK.lst (o:=.lst (ys'++[.ref t])) (u5 _ _ l4);refine⟨_,_,rfl,fun b5 o5 e5=>?_,ae,?_⟩
    ·rw[ax (fun z=>by rw[z,hl]at e5;cases e5)];exact u5 _ _ (s4 _ _ e5)
    ·rw[vB,uZ,<-uk];exact Paired.app (Paired.imp (fun _ _ z=>PtE.tk tk (PtE.tk u5.tk z)) py4) (.cons ⟨t,rfl,tk.sq (SqT.of ae)⟩ .nil)
   ·rintro σ H4 ⟨o5',ys',rfl,s4,l4,py4⟩;exact⟨_,_,_,_,ys',rfl,s4,l4,py4⟩
  ·have ne:LO.ups q0 q1=[]:=LO.lp fun y=>z (veq.mpr y);rw[ne,uN];exact⟨_,_,_,_,ys,rfl,s3,l3,py3⟩
 ·rintro σ H2 ⟨o2,o3,o4,o5,ys,rfl,s2,k2,py⟩;rw[uj px,uG]at py;refine⟨_,rfl,q l ys H2 s2 k2 ?_⟩;unfold LO.iF;rw[LO.jC];exact py
def dS(K:Frag):Sp:=fun vs H Q _=>∃(a:Addr)(ns:List Int)(k:Nat),vs=[.ref a,.int k]/\SqL K H a (ns.map V.int)/\Q (.int (ns.getD k 0)) H
variable(aV:Df P w K mg base 1 "_law_cell_at" ["_law_script","_law_k"] (dS K))
theorem gg:aD ["_law_script","_law_k"] ["_law_script","_law_k"] (av (top 19)):=by trivial
include B in
theorem gy(T:Tx K mg "_law_cell_at" (top 19) ["_law_script","_law_k"]):Df P w K mg base 1 "_law_cell_at" ["_law_script","_law_k"] (dS K):=by
 refine T.df gg (by rintro _ _ _ _ ⟨a,ns,k,rfl,hS,q⟩;rfl) ?_;rintro f _ A _ s H _ Q E hr ⟨a,ns,k,rfl,hS,q⟩;refine aW ?_;intro kX;refine ah 1 (aj (aF ab)) ?_;intro kR1 pR1;refine⟨_,(af (bD (aP nL (pv 1) (cL jj (by rfl) B.len PySem.boot_len (aa (pv 0) ag)) (aJ _)) (aj (aF (ay cT (pv 0) (pv 1) (fun _ _=>rfl)))) aS) pR1),?_⟩;refine⟨_,rfl,_,rfl,a,_,rfl,.inl hS,_,_,rfl,rfl,_,rfl,?_⟩;refine bx (fun h1=>?_) (fun h1=>?_)
 ·have h1':k<ns.length:=by
   have:=vd h1;rw[tX]at this;omega
  refine⟨_,rfl,_,rfl,a,_,_,_,rfl,rfl,hS,ak (show(ns.map V.int)[k]?=some (.int (ns.getD k 0)) by simp[h1',List.getD]),q⟩
 ·have h1':¬k<ns.length:=fun z=>h1 (by
   rw[uE,tX]
   omega)
  have e:ns.getD k 0=0:=by simp[List.getD,Nat.le_of_not_lt h1']
  rw[e]at q;exact q
def eT(K:Frag):Sp:=fun vs H Q _=>∃(x:V)(n:String),vs=[x]/\dF K H x (.type n)/\Q (.bl (isI x)) H
variable(bT:Df P w K mg base 1 "_law_whole" ["_law_found"] (eT K))
theorem iJ:aD ["_law_found"] ["_law_found"] (av (top 20)):=by trivial
include B in
theorem iS(T:Tx K mg "_law_whole" (top 20) ["_law_found"]):Df P w K mg base 1 "_law_whole" ["_law_found"] (eT K):=by
 refine T.df iJ (by rintro _ _ _ _ ⟨x,n,rfl,ty,q⟩;rfl) ?_;rintro f _ A _ s H _ Q E hr ⟨x,n,rfl,ty,q⟩;refine⟨_,(aj (aF (iP (cL kf (by rfl) B.isinstance boot_isinstance (aa (pv 0) (aa (lI (x:="int") (v:=.ty "int") (by rfl) B.int boot_int rfl) ag))) (fu (qS (cL kf (by rfl) B.isinstance boot_isinstance (aa (pv 0) (aa (lI (x:="bool") (v:=.ty "bool") (by rfl) B.bool boot_bool rfl) ag)))))))),?_⟩;have k1:=pY K ty;have k2:=n9 K ty;refine⟨_,rfl,_,_,_,_,rfl,ty,k1,_,rfl,?_⟩;refine bx (fun h1=>?_) (fun h1=>?_)
 ·refine⟨_,rfl,_,_,_,_,rfl,ty,k2,_,rfl,?_⟩;cases x<;>simp_all [isI,isB]
 ·cases x<;>simp_all [isI,isB]
def fI(K:Frag):Sp:=fun vs H Q _=>∃(c:Int),vs=[.int c]/\∀r:Int,Q (.int r) H
variable(bh:Df P w K mg base 1 "_law_bits" ["_law_cell"] (fI K))
theorem fJ:aD ["_law_cell","_law_one"] ["_law_cell"] (av (top 21)):=by trivial
include B in
theorem jQ(T:Tx K mg "_law_bits" (top 21) ["_law_cell"]):Df P w K mg base 1 "_law_bits" ["_law_cell"] (fI K):=by refine T.df fJ (by rintro _ _ _ _ ⟨c,rfl,q⟩;rfl) ?_;rintro f _ A _ s H _ Q E hr ⟨c,rfl,q⟩;refine aW ?_;intro kX;refine ah 1 (aj (aF (ai nJ (pv 1) (ai aQ (pv 1) ab)))) ?_;intro kR1 pR1;refine⟨_,(af (ao (i:=1) fJ.nd rfl (by trivial) (ai aI (ai cY (ai aI (pv 0) (ai nK ab ab)) ab) (ai nK ab ab))) pR1),?_⟩;refine⟨_,rfl,_,_,rfl,rfl,⟨by decide,by decide,by decide⟩,_,_,rfl,rfl,(by show(0:Int)<_;decide),_,_,rfl,rfl,.inl (sv c),_,_,rfl,rfl,⟨by decide,by decide,by decide⟩,_,_,rfl,rfl,(by show(0:Int)<_;decide),?_⟩;exact⟨_,rfl,_,rfl,_,_,rfl,rfl,⟨by decide,by decide⟩,_,_,rfl,rfl,q _⟩
def eU(K:Frag):Sp:=fun vs H Q _=>∃(r:Int)(w h:Nat),vs=[.int r,.int w,.int h]/\(0<w/\w<=8/\0<h/\h<=8)/\∀(v:Int) H',aq H H'->Q (.int v) H'
variable(cW:Df P w K mg base 1 "_law_shape" ["_law_rest","_law_wide","_law_high"] (eU K))
theorem aT:aD ["_law_rest","_law_wide","_law_high","_law_found","_law_k","_law_x","_law_y","_law_held"] ["_law_rest","_law_wide","_law_high"] (av (top 22)):=by trivial
include B in
theorem iT(T:Tx K mg "_law_shape" (top 22) ["_law_rest","_law_wide","_law_high"]):Df P w K mg base 1 "_law_shape" ["_law_rest","_law_wide","_law_high"] (eU K):=by
 refine T.df aT (by rintro _ _ _ _ ⟨r,w,h,rfl,⟨hw,hw8,hh,hh8⟩,q⟩;rfl) ?_;rintro f _ A _ s H _ Q E hr ⟨r,w,h,rfl,⟨hw,hw8,hh,hh8⟩,q⟩;refine aW ?_;intro kX;refine ah 2 (aj (aF (pv 3))) ?_;intro kR2 pR2;refine aC 1 3 (aj (bD (aP lJ (pv 7) (b9 bS (pv 4) (ai aI (ai aQ (pv 0) ab) (ai cY (pv 1) (pv 2))) (aJ _)) (aJ _)) (aj (ao (i:=3) aT.nd rfl (by trivial) (ai aL (pv 3) (ai dz ab (pv 4))))) aS)) ?_;intro kS1x3 pS1x3;refine aC 1 2 (b7 (bD (aP bS (ai aI (pv 0) ab) ab (aJ _)) (aj (ao (i:=7) aT.nd rfl (by trivial) (qv (b9 bS (ai aI (pv 6) ab) ab (aJ _)) (fu (b9 bS (pv 5) (ay cT (bz (aa (ai a7 (pv 1) ab) (aa ab ag))) (ai aI (ai aQ (pv 6) ab) ab) (fun _ _=>rfl)) (aJ _)))))) (aj (bD (aP bS (ai aI (pv 0) ab) ab (aJ _)) (aj (ao (i:=7) aT.nd rfl (by trivial) (qv (b9 ie (pv 5) (aG (aa ab (aa (ai a7 (pv 1) ab) ag))) (by with_unfolding_all rfl)) (fu (b9 ie (pv 6) (aG (aa ab (aa (ai a7 (pv 2) ab) ag))) (by with_unfolding_all rfl)))))) (aj (ao (i:=7) aT.nd rfl (by trivial) (b9 bS (ai aI (ai aL (pv 5) (pv 6)) ab) (ai aI (ai aQ (pv 0) ab) ab) (aJ _))))))) pS1x3) ?_;intro kS1x2 pS1x2;refine aC 1 1 (af (ao (i:=6) aT.nd rfl (by trivial) (ai aQ (pv 4) (pv 1))) pS1x2) ?_;intro kS1x1 pS1x1;refine aC 1 0 (af (ao (i:=5) aT.nd rfl (by trivial) (ai aI (pv 4) (pv 1))) pS1x1) ?_;intro kS1x0 pS1x0;refine ah 1 (af (bM uL rfl (c7 (by rfl) B.range (aa (ai cY (pv 1) (pv 2)) ag)) (aK (i:=4) aT.nd rfl (by trivial)) pS1x0) pR2) ?_;intro kR1 pR1;refine⟨_,(af (ao (i:=3) aT.nd rfl (by trivial) ab) pR1),?_⟩;have hwh:w*h<=64:=Nat.mul_le_mul hw8 hh8;have hwp:0<w*h:=Nat.mul_pos hw hh;have e1:((w:Int)*(h:Int))=((w*h:Nat):Int):=by simp
 refine⟨_,rfl,_,rfl,_,_,rfl,rfl,.inl ⟨by omega,by omega⟩,_,rfl,by omega,by omega,?_⟩;refine d8 (lo:=0) (fun i σ H2=>∃v o4 o5 o6 o7,σ=[some (.int r),some (.int w),some (.int h),some (.int v),o4,o5,o6,o7]/\aq H H2) ⟨0,none,none,none,none,rfl,aq.refl _⟩ ?_ ?_
 ·rintro i σ H2 hi ⟨v,o4,o5,o6,o7,rfl,s2⟩;refine dj ?_;intro kD1;have hi':i<64:=by
   rw[e1,uP]at hi;omega
  have y2:=Int.emod_two_eq (((0+(i:Int)) / (w:Int)) / 2);refine⟨_,rfl,_,rfl,_,_,rfl,rfl,(by omega),_,rfl,_,rfl,_,_,rfl,rfl,⟨by omega,by omega⟩,?_⟩;refine⟨fun σ' H'=>∃b,σ'=[some (.int r),some (.int w),some (.int h),some (.int v),some (.int (0+(i:Int))),some (.int ((0+(i:Int)) % (w:Int))),some (.int ((0+(i:Int)) / (w:Int))),some (.bl b)]/\aq H H',?_,?_⟩
  ·refine ip ?_;intro kD2;refine⟨_,rfl,_,_,rfl,rfl,(by show(0:Int)<_;decide),rfl,_,rfl,?_⟩;refine bx (fun h1=>?_) (fun h1=>?_)
   ·refine⟨_,rfl,_,_,rfl,rfl,(by show(0:Int)<_;decide),rfl,_,rfl,?_⟩;refine bx (fun h2=>?_) (fun h2=>?_)
    ·exact⟨_,rfl,s2⟩
    ·refine⟨_,rfl,_,rfl,_,_,rfl,rfl,az rfl,fun l hl=>?_⟩;have s3:=s2.trans (aq.upd (o:=.lst [.int ((w:Int)-1),.int 0]) hl);obtain⟨v3,y3⟩:∃v3:Int,atI [V.int ((w:Int)-1),.int 0] ((((0+(i:Int)) / (w:Int)) / 2) % 2)=some (.int v3):=by
      rcases y2 with y2|y2
      ·rw[y2];exact⟨_,rfl⟩
      ·rw[y2];exact⟨_,rfl⟩
     refine⟨_,rfl,_,_,rfl,rfl,⟨by decide,by decide⟩,_,_,rfl,rfl,(by show(0:Int)<_;decide),l,_,_,_,rfl,rfl,SqL.of ae,y3,rfl,?_⟩;exact⟨_,rfl,s3⟩
   ·refine⟨_,rfl,_,_,rfl,rfl,(by show(0:Int)<_;decide),rfl,_,rfl,?_⟩;refine bx (fun h2=>?_) (fun h2=>?_)
    ·refine⟨_,rfl,_,rfl,_,_,rfl,rfl,az rfl,fun t ht=>?_⟩;have s3:=s2.trans (aq.upd (o:=.tup [.int 0,.int ((w:Int)-1)]) ht);refine⟨t,_,rfl,.inr (SqT.of ae),rfl,rfl,_,rfl,?_⟩;refine bx (fun h3=>?_) (fun h3=>?_)
     ·exact⟨_,rfl,s3⟩
     ·refine⟨_,rfl,_,rfl,_,_,rfl,rfl,az rfl,fun t2 ht2=>?_⟩;have s4:=s3.trans (aq.upd (o:=.tup [.int 0,.int ((h:Int)-1)]) ht2);refine⟨t2,_,rfl,.inr (SqT.of ae),rfl,rfl,?_⟩;exact⟨_,rfl,s4⟩
    ·refine⟨_,rfl,_,rfl,_,_,rfl,rfl,_,_,rfl,rfl,(by show(0:Int)<_;decide),_,rfl,_,_,rfl,rfl,⟨by decide,by decide⟩,_,_,rfl,rfl,(by show(0:Int)<_;decide),rfl,?_⟩;exact⟨_,rfl,s2⟩
  ·rintro σ' H' ⟨b,rfl,s5⟩;refine⟨_,rfl,_,rfl,_,rfl,_,_,rfl,rfl,⟨by decide,by decide⟩,_,rfl,_,rfl,_,_,rfl,rfl,.inl ⟨by omega,by omega⟩,_,_,rfl,rfl,(by rw[e1];omega),rfl,rfl,_,rfl,?_⟩;refine bx (fun h9=>?_) (fun h9=>?_)
   ·refine⟨_,rfl,_,rfl,_,_,rfl,rfl,⟨by omega,by omega,by decide⟩,_,_,rfl,rfl,?_⟩;exact⟨_,_,_,_,_,rfl,s5⟩
   ·exact⟨_,_,_,_,_,rfl,s5⟩
 ·rintro σ H2 ⟨v,o4,o5,o6,o7,rfl,s2⟩;exact⟨_,rfl,q _ _ s2⟩
def gb(K:Frag):Sp:=fun vs H Q _=>∃(c wd hh:Int),vs=[.int c,.int wd,.int hh]/\(0<wd/\wd<=8)/\(0<hh/\hh<=8)/\∀t B H',aq H H'->kW K H' t B->LO.oH wd hh B->Q (.ref t) H'
variable(eg:Df P w K mg base 1 "_law_box" ["_law_cell","_law_wide","_law_high"] (gb K))
theorem cK:aD ["_law_cell","_law_wide","_law_high","_law_left","_law_low","_law_right","_law_top"] ["_law_cell","_law_wide","_law_high"] (av (top 25)):=by trivial
include B in
theorem kE(T:Tx K mg "_law_box" (top 25) ["_law_cell","_law_wide","_law_high"]):Df P w K mg base 1 "_law_box" ["_law_cell","_law_wide","_law_high"] (gb K):=by refine T.df cK (by rintro _ _ _ _ ⟨c,wd,hh,rfl,⟨hw,hw8⟩,⟨hh0,hh8⟩,q⟩;rfl) ?_;rintro f _ A _ s H _ Q E hr ⟨c,wd,hh,rfl,⟨hw,hw8⟩,⟨hh0,hh8⟩,q⟩;refine aW ?_;intro kX;refine ah 4 (aj (aF (aG (aa (pv 3) (aa (pv 4) (aa (pv 5) (aa (pv 6) ag))))))) ?_;intro kR4 pR4;refine ah 3 (af (ao (i:=6) cK.nd rfl (by trivial) (ai aL (ai aL (pv 4) ab) (ai aI (ai aQ (pv 0) ab) (ai a7 (pv 2) (pv 4))))) pR4) ?_;intro kR3 pR3;refine ah 2 (af (ao (i:=5) cK.nd rfl (by trivial) (ai aL (ai aL (pv 3) ab) (ai aI (ai aQ (pv 0) ab) (ai a7 (pv 1) (pv 3))))) pR3) ?_;intro kR2 pR2;refine ah 1 (af (ao (i:=4) cK.nd rfl (by trivial) (ai aI (ai aQ (pv 0) ab) (pv 2))) pR2) ?_;intro kR1 pR1;refine⟨_,(af (ao (i:=3) cK.nd rfl (by trivial) (ai aI (pv 0) (pv 1))) pR1),?_⟩;have m1:=u6 c (show wd≠0 by omega);have m2:=uR c hw;have n1:=u6 (c / 8) (show hh≠0 by omega);have n2:=uR (c / 8) hh0;have r1:=u6 (c / 64) (show wd-c % wd≠0 by omega);have r2:=uR (c / 64) (show 0<wd-c % wd by omega);have t1:=u6 (c / 512) (show hh-c / 8 % hh≠0 by omega);have t2:=uR (c / 512) (show 0<hh-c / 8 % hh by omega);refine⟨_,rfl,_,rfl,_,_,rfl,rfl,hw,?_⟩;refine⟨_,rfl,_,_,rfl,rfl,⟨by decide,by decide⟩,_,rfl,_,_,rfl,rfl,hh0,?_⟩;refine⟨_,rfl,_,_,rfl,rfl,_,rfl,_,_,rfl,rfl,⟨by decide,by decide⟩,_,rfl,_,rfl,_,_,rfl,rfl,_,_,rfl,rfl,(by show 0<wd-c % wd;omega),_,_,rfl,rfl,?_⟩;refine⟨_,rfl,_,_,rfl,rfl,_,rfl,_,_,rfl,rfl,⟨by decide,by decide⟩,_,rfl,_,rfl,_,_,rfl,rfl,_,_,rfl,rfl,(by show 0<hh-c / 8 % hh;omega),_,_,rfl,rfl,?_⟩;refine⟨_,rfl,_,rfl,_,rfl,_,rfl,az rfl,fun t ht=>?_⟩;refine q t (c % wd,c / 8 % hh,c % wd+1+c / 64 % (wd-c % wd),c / 8 % hh+1+c / 512 % (hh-c / 8 % hh)) _ (aq.upd ht) (SqT.of ae) ?_;exact⟨m1,by show c % wd<c % wd+1+_;omega,by show c % wd+1+_<=wd;omega,n1,by show c / 8 % hh<c / 8 % hh+1+_;omega,by show c / 8 % hh+1+_<=hh;omega⟩
def fH(K:Frag):Sp:=fun vs H Q _=>∃(t:Addr)(tu:Bool)(B:LO.Bx),vs=[.ref t,.bl tu]/\kW K H t B/\∀l H',H l=none->aq H H'->dN K H' l (LO.ba tu B)->Q (.ref l) H'
variable(dE:Df P w K mg base 1 "_law_ring" ["_law_box_here","_law_turned"] (fH K))
theorem jB:aD ["_law_box_here","_law_turned"] ["_law_box_here","_law_turned"] (av (top 27)):=by trivial
include B in
theorem jP(T:Tx K mg "_law_ring" (top 27) ["_law_box_here","_law_turned"]):Df P w K mg base 1 "_law_ring" ["_law_box_here","_law_turned"] (fH K):=by
 refine T.df jB (by rintro _ _ _ _ ⟨t,tu,B,rfl,hB,q⟩;rfl) ?_;rintro f _ A _ s H _ Q E hr ⟨t,tu,B,rfl,hB,q⟩;refine aW ?_;intro kX;refine ah 1 (aj (aF (bz (aa (aG (aa (ay au (pv 0) ab (fun _ _=>rfl)) (aa (ay au (pv 0) ab (fun _ _=>rfl)) ag))) (aa (aG (aa (ay au (pv 0) ab (fun _ _=>rfl)) (aa (ay au (pv 0) ab (fun _ _=>rfl)) ag))) (aa (aG (aa (ay au (pv 0) ab (fun _ _=>rfl)) (aa (ay au (pv 0) ab (fun _ _=>rfl)) ag))) (aa (aG (aa (ay au (pv 0) ab (fun _ _=>rfl)) (aa (ay au (pv 0) ab (fun _ _=>rfl)) ag))) ag))))))) ?_;intro kR1 pR1;refine⟨_,(af (bD (iM (pv 1)) (aj (aF (bz (aa (aG (aa (ay au (pv 0) ab (fun _ _=>rfl)) (aa (ay au (pv 0) ab (fun _ _=>rfl)) ag))) (aa (aG (aa (ay au (pv 0) ab (fun _ _=>rfl)) (aa (ay au (pv 0) ab (fun _ _=>rfl)) ag))) (aa (aG (aa (ay au (pv 0) ab (fun _ _=>rfl)) (aa (ay au (pv 0) ab (fun _ _=>rfl)) ag))) (aa (aG (aa (ay au (pv 0) ab (fun _ _=>rfl)) (aa (ay au (pv 0) ab (fun _ _=>rfl)) ag))) ag))))))) aS) pR1),?_⟩;refine⟨_,rfl,_,rfl,?_⟩;refine bx (fun z=>?_) (fun z=>?_)
 ·rw[LO.ba,tU z]at q;refine⟨_,rfl,t,_,_,_,rfl,rfl,hB,ak (j:=0) rfl,_,rfl,t,_,_,_,rfl,rfl,hB,ak (j:=1) rfl,az rfl,fun p0 hp0=>?_⟩;have u0:=aq.upd (o:=.tup [.int B.1,.int B.2.1]) hp0;have k0:SqT K (upd H p0 (.tup [.int B.1,.int B.2.1])) p0 [.int B.1,.int B.2.1]:=SqT.of ae;have v0:=u0;generalize (upd H p0 (.tup [.int B.1,.int B.2.1]))=G0 at u0 k0 v0 ⊢;refine⟨_,rfl,t,_,_,_,rfl,rfl,(v0.tup hB),ak (j:=0) rfl,_,rfl,t,_,_,_,rfl,rfl,(v0.tup hB),ak (j:=3) rfl,az rfl,fun p1 hp1=>?_⟩;have u1:=aq.upd (o:=.tup [.int B.1,.int B.2.2.2]) hp1;have k1:SqT K (upd G0 p1 (.tup [.int B.1,.int B.2.2.2])) p1 [.int B.1,.int B.2.2.2]:=SqT.of ae;have v1:=v0.trans u1;generalize (upd G0 p1 (.tup [.int B.1,.int B.2.2.2]))=G1 at u1 k1 v1 ⊢;refine⟨_,rfl,t,_,_,_,rfl,rfl,(v1.tup hB),ak (j:=2) rfl,_,rfl,t,_,_,_,rfl,rfl,(v1.tup hB),ak (j:=3) rfl,az rfl,fun p2 hp2=>?_⟩;have u2:=aq.upd (o:=.tup [.int B.2.2.1,.int B.2.2.2]) hp2;have k2:SqT K (upd G1 p2 (.tup [.int B.2.2.1,.int B.2.2.2])) p2 [.int B.2.2.1,.int B.2.2.2]:=SqT.of ae;have v2:=v1.trans u2;generalize (upd G1 p2 (.tup [.int B.2.2.1,.int B.2.2.2]))=G2 at u2 k2 v2 ⊢;refine⟨_,rfl,t,_,_,_,rfl,rfl,(v2.tup hB),ak (j:=2) rfl,_,rfl,t,_,_,_,rfl,rfl,(v2.tup hB),ak (j:=1) rfl,az rfl,fun p3 hp3=>?_⟩;have u3:=aq.upd (o:=.tup [.int B.2.2.1,.int B.2.1]) hp3;have k3:SqT K (upd G2 p3 (.tup [.int B.2.2.1,.int B.2.1])) p3 [.int B.2.2.1,.int B.2.1]:=SqT.of ae;have v3:=v2.trans u3;generalize (upd G2 p3 (.tup [.int B.2.2.1,.int B.2.1]))=G3 at u3 k3 v3 ⊢;refine⟨az rfl,fun l hl=>?_⟩;have u4:=aq.upd (o:=.lst [.ref p0,.ref p1,.ref p2,.ref p3]) hl;have hl0:H l=none:=by
   cases z:H l with
   |none=>rfl
   |some o=>rw[v3 _ _ z]at hl;cases hl
  exact q l _ hl0 (v3.trans u4) ⟨_,ae,.cons ⟨p0,rfl,(u1.trans (u2.trans (u3.trans u4))).tup k0⟩ (.cons ⟨p1,rfl,(u2.trans (u3.trans u4)).tup k1⟩ (.cons ⟨p2,rfl,(u3.trans u4).tup k2⟩ (.cons ⟨p3,rfl,u4.tup k3⟩ .nil)))⟩
 ·rw[LO.ba,tV z]at q;refine⟨_,rfl,t,_,_,_,rfl,rfl,hB,ak (j:=0) rfl,_,rfl,t,_,_,_,rfl,rfl,hB,ak (j:=1) rfl,az rfl,fun p0 hp0=>?_⟩;have u0:=aq.upd (o:=.tup [.int B.1,.int B.2.1]) hp0;have k0:SqT K (upd H p0 (.tup [.int B.1,.int B.2.1])) p0 [.int B.1,.int B.2.1]:=SqT.of ae;have v0:=u0;generalize (upd H p0 (.tup [.int B.1,.int B.2.1]))=G0 at u0 k0 v0 ⊢;refine⟨_,rfl,t,_,_,_,rfl,rfl,(v0.tup hB),ak (j:=2) rfl,_,rfl,t,_,_,_,rfl,rfl,(v0.tup hB),ak (j:=1) rfl,az rfl,fun p1 hp1=>?_⟩;have u1:=aq.upd (o:=.tup [.int B.2.2.1,.int B.2.1]) hp1;have k1:SqT K (upd G0 p1 (.tup [.int B.2.2.1,.int B.2.1])) p1 [.int B.2.2.1,.int B.2.1]:=SqT.of ae;have v1:=v0.trans u1;generalize (upd G0 p1 (.tup [.int B.2.2.1,.int B.2.1]))=G1 at u1 k1 v1 ⊢;refine⟨_,rfl,t,_,_,_,rfl,rfl,(v1.tup hB),ak (j:=2) rfl,_,rfl,t,_,_,_,rfl,rfl,(v1.tup hB),ak (j:=3) rfl,az rfl,fun p2 hp2=>?_⟩;have u2:=aq.upd (o:=.tup [.int B.2.2.1,.int B.2.2.2]) hp2;have k2:SqT K (upd G1 p2 (.tup [.int B.2.2.1,.int B.2.2.2])) p2 [.int B.2.2.1,.int B.2.2.2]:=SqT.of ae;have v2:=v1.trans u2;generalize (upd G1 p2 (.tup [.int B.2.2.1,.int B.2.2.2]))=G2 at u2 k2 v2 ⊢;refine⟨_,rfl,t,_,_,_,rfl,rfl,(v2.tup hB),ak (j:=0) rfl,_,rfl,t,_,_,_,rfl,rfl,(v2.tup hB),ak (j:=3) rfl,az rfl,fun p3 hp3=>?_⟩;have u3:=aq.upd (o:=.tup [.int B.1,.int B.2.2.2]) hp3;have k3:SqT K (upd G2 p3 (.tup [.int B.1,.int B.2.2.2])) p3 [.int B.1,.int B.2.2.2]:=SqT.of ae;have v3:=v2.trans u3;generalize (upd G2 p3 (.tup [.int B.1,.int B.2.2.2]))=G3 at u3 k3 v3 ⊢;refine⟨az rfl,fun l hl=>?_⟩;have u4:=aq.upd (o:=.lst [.ref p0,.ref p1,.ref p2,.ref p3]) hl;have hl0:H l=none:=by
   cases z:H l with
   |none=>rfl
   |some o=>rw[v3 _ _ z]at hl;cases hl
  exact q l _ hl0 (v3.trans u4) ⟨_,ae,.cons ⟨p0,rfl,(u1.trans (u2.trans (u3.trans u4))).tup k0⟩ (.cons ⟨p1,rfl,(u2.trans (u3.trans u4)).tup k1⟩ (.cons ⟨p2,rfl,(u3.trans u4).tup k2⟩ (.cons ⟨p3,rfl,u4.tup k3⟩ .nil)))⟩
def f9(K:Frag):Sp:=fun vs H Q _=>∃(l:Addr)(wd hh:Nat)(xs:List V)(Bs:List LO.Bx),vs=[.ref l,.int (wd:Nat),.int (hh:Nat)]/\(0<wd/\wd<=8)/\(0<hh/\hh<=8)/\H l=some (.lst xs)/\Paired (dG K H) xs Bs/\Bs.length<=100/\∀H',aq H H'->Q (.int (LO.pH wd hh Bs:Nat)) H'
variable(ef:Df P w K mg base 1 "_law_odd" ["_law_boxes_here","_law_wide","_law_high"] (f9 K))
theorem bg:aD ["_law_boxes_here","_law_wide","_law_high","_law_found","_law_k","_law_x","_law_y","_law_many","_law_box_here"] ["_law_boxes_here","_law_wide","_law_high"] (av (top 28)):=by trivial
include B in
theorem kD(T:Tx K mg "_law_odd" (top 28) ["_law_boxes_here","_law_wide","_law_high"]):Df P w K mg base 1 "_law_odd" ["_law_boxes_here","_law_wide","_law_high"] (f9 K):=by
 refine T.df bg (by rintro _ _ _ _ ⟨l,wd,hh,xs,Bs,rfl,⟨hw,hw8⟩,⟨hh0,hh8⟩,hl,px,lB,q⟩;rfl) ?_;rintro f _ A _ s H _ Q E hr ⟨l,wd,hh,xs,Bs,rfl,⟨hw,hw8⟩,⟨hh0,hh8⟩,hl,px,lB,q⟩;refine aW ?_;intro kX;refine ah 2 (aj (aF (pv 3))) ?_;intro kR2 pR2;refine aC 1 4 (aj (bD (aP bS (ai aI (pv 7) ab) ab (aJ _)) (aj (ao (i:=3) bg.nd rfl (by trivial) (ai aL (pv 3) (ai dz ab (pv 4))))) aS)) ?_;intro kS1x4 pS1x4;refine aC 1 3 (af (bM uL rfl (bV (pv 0)) (aK (i:=8) bg.nd rfl (by trivial)) (aj (ao (i:=7) bg.nd rfl (by trivial) (ai aL (pv 7) (de ix (by rfl) B.int boot_int (aa (iP (jM qx nL (ay au (pv 8) ab (fun _ _=>rfl)) (pv 5) (ay au (pv 8) ab (fun _ _=>rfl))) (fu (jM qx nL (ay au (pv 8) ab (fun _ _=>rfl)) (pv 6) (ay au (pv 8) ab (fun _ _=>rfl))))) ag)))))) pS1x4) ?_;intro kS1x3 pS1x3;refine aC 1 2 (af (ao (i:=7) bg.nd rfl (by trivial) ab) pS1x3) ?_;intro kS1x2 pS1x2;refine aC 1 1 (af (ao (i:=6) bg.nd rfl (by trivial) (ai aQ (pv 4) (pv 1))) pS1x2) ?_;intro kS1x1 pS1x1;refine aC 1 0 (af (ao (i:=5) bg.nd rfl (by trivial) (ai aI (pv 4) (pv 1))) pS1x1) ?_;intro kS1x0 pS1x0;refine ah 1 (af (bM uL rfl (c7 (by rfl) B.range (aa (ai cY (pv 1) (pv 2)) ag)) (aK (i:=4) bg.nd rfl (by trivial)) pS1x0) pR2) ?_;intro kR1 pR1;refine⟨_,(af (ao (i:=3) bg.nd rfl (by trivial) ab) pR1),?_⟩;have hwh:wd*hh<=64:=Nat.mul_le_mul hw8 hh8;obtain⟨pr,epr⟩:∃pr:Nat->Bool,pr=fun k=>LO.dg (fun B=>LO.inB B ((k % wd:Nat):Int) ((k / wd:Nat):Int)) Bs:=⟨_,rfl⟩;refine⟨_,rfl,_,rfl,_,_,rfl,rfl,.inl ⟨by omega,by omega⟩,?_⟩;refine⟨_,rfl,by omega,by omega,?_⟩;rw[show(((wd:Nat):Int)*((hh:Nat):Int)).toNat=wd*hh by rw[<-Int.natCast_mul];rfl];refine d8 (lo:=0) (n:=wd*hh) (fun i σ H2=>∃(o4 o5 o6 o7 o8:Option V),σ=[some (.ref l),some (.int (wd:Nat)),some (.int (hh:Nat)),some (.int (bZ 0 ((List.range i).filter pr):Nat)),o4,o5,o6,o7,o8]/\H2=H) ⟨none,none,none,none,none,rfl,rfl⟩ ?_ ?_
 ·rintro k σ H2 hk ⟨o4,o5,o6,o7,o8,rfl,rfl⟩;rw[show(0:Int)+(k:Int)=((k:Nat):Int) by omega];refine dj ?_;intro kD1;refine⟨_,rfl,_,rfl,_,_,rfl,rfl,(by show(0:Int)<(wd:Nat);omega),?_⟩;refine⟨_,rfl,_,rfl,_,_,rfl,rfl,⟨by omega,by omega⟩,?_⟩;have epk:pr k=LO.dg (fun B=>LO.inB B ((k % wd:Nat):Int) ((k / wd:Nat):Int)) Bs:=by rw[epr]
  obtain⟨X,eX⟩:∃X:Int,X=((k % wd:Nat):Int):=⟨_,rfl⟩;obtain⟨Y,eY⟩:∃Y:Int,Y=((k / wd:Nat):Int):=⟨_,rfl⟩;rw[<-eX,<-eY,LO.gv]at epk;refine⟨_,rfl,l,rfl,⟨_,SqL.of hl⟩,bW (K:=K) (a:=l) (xs:=xs) (fun j σ H3=>∃(o8:Option V),σ=[some (.ref l),some (.int (wd:Nat)),some (.int (hh:Nat)),some (.int (bZ 0 ((List.range k).filter pr):Nat)),some (.int (k:Nat)),some (.int X),some (.int Y),some (.int (((Bs.take j).countP fun B=>LO.inB B X Y:Nat):Int)),o8]/\H3=H2) ⟨o8,by rw[eX,eY];rfl,rfl⟩ (fun j σ H2 _ hPz=>hPz.elim fun _ hPz=>(fun e=>by rw[e];exact SqL.of hl) (hPz.2)) ?_ ?_⟩
  ·rintro j v σ H3 hj ⟨o8',rfl,rfl⟩;refine dj ?_;intro kD2;obtain⟨B,hBj,t,rfl,hB⟩:=a9 px hj;have en:∀z,LO.inB B X Y=z->(((Bs.take j).countP fun B=>LO.inB B X Y:Nat):Int)+(if z=true then 1 else 0)=(((Bs.take (j+1)).countP fun B=>LO.inB B X Y:Nat):Int):=fun z ez=>by
    rw[uq,hBj,uw,List.countP_append,List.countP_singleton,ez];cases z<;>rfl
   have fin:∀z,LO.inB B X Y=z->∃(o8:Option V),[some (V.ref l),some (.int (wd:Nat)),some (.int (hh:Nat)),some (.int (bZ 0 ((List.range k).filter pr):Nat)),some (.int (k:Nat)),some (.int X),some (.int Y),some (.int ((((Bs.take j).countP fun B=>LO.inB B X Y:Nat):Int)+(if z=true then 1 else 0))),some (.ref t)]=[some (V.ref l),some (.int (wd:Nat)),some (.int (hh:Nat)),some (.int (bZ 0 ((List.range k).filter pr):Nat)),some (.int (k:Nat)),some (.int X),some (.int Y),some (.int (((Bs.take (j+1)).countP fun B=>LO.inB B X Y:Nat):Int)),o8]/\H3=H3:=fun z ez=>⟨some (.ref t),by rw[en z ez],rfl⟩;refine⟨_,rfl,_,rfl,t,_,_,_,rfl,rfl,hB,ak (j:=0) rfl,_,rfl,_,_,rfl,rfl,_,rfl,?_⟩;refine bx (fun z1=>?_) (fun z1=>?_)
   ·refine⟨_,rfl,t,_,_,_,rfl,rfl,hB,ak (j:=2) rfl,_,_,rfl,rfl,_,rfl,?_⟩;refine bx (fun z2=>?_) (fun z2=>?_)
    ·refine⟨_,rfl,t,_,_,_,rfl,rfl,hB,ak (j:=1) rfl,_,rfl,_,_,rfl,rfl,_,rfl,?_⟩;refine bx (fun z3=>?_) (fun z3=>?_)
     ·refine⟨_,rfl,t,_,_,_,rfl,rfl,hB,ak (j:=3) rfl,_,_,rfl,rfl,.inr ⟨_,rfl,_,_,rfl,rfl,?_⟩⟩;exact fin _ (by unfold LO.inB;rw[z1,z2,z3];rfl)
     ·refine .inr ⟨_,rfl,_,_,rfl,rfl,?_⟩;exact fin false (by unfold LO.inB;rw[Bool.not_eq_true]at z3;rw[z3,vI,vh])
    ·refine .inr ⟨_,rfl,_,_,rfl,rfl,?_⟩;exact fin false (by unfold LO.inB;rw[Bool.not_eq_true]at z2;rw[z2,vh,vI])
   ·refine⟨_,rfl,?_⟩;refine ro (.inr ⟨_,rfl,_,_,rfl,rfl,?_⟩);exact fin false (by unfold LO.inB;rw[Bool.not_eq_true]at z1;rw[z1,vI,vI])
  ·rintro σ H3 ⟨o8',rfl,rfl⟩;rw[uj px,uG];refine⟨_,rfl,_,_,rfl,rfl,(by show(0:Int)<2;decide),rfl,_,rfl,?_⟩;have hf:(List.range (k+1)).filter pr=(List.range k).filter pr++[k].filter pr:=(by rw[vB,List.filter_append]);refine bx (fun z=>?_) (fun z=>?_)
   ·have z':=veq.mp z;rw[tS z']at epk;refine⟨_,rfl,_,rfl,_,_,rfl,rfl,⟨by omega,by omega,by decide⟩,_,_,rfl,rfl,?_⟩;refine⟨some (.int (k:Nat)),some (.int X),some (.int Y),some (.int ((Bs.countP fun B=>LO.inB B X Y:Nat):Int)),o8',?_,rfl⟩;show[_,_,_,some (V.int (((bZ 0 ((List.range k).filter pr):Nat):Int)+1*2^((k:Nat):Int).toNat)),_,_,_,_,_]=_;rw[hf,List.filter_cons_of_pos epk,List.filter_nil,LO.mI,Int.one_mul,uP,Int.natCast_add,Int.natCast_pow];rfl
   ·have z':¬_:=fun y=>z (veq.mpr y);rw[tQ z']at epk;refine⟨some (.int (k:Nat)),some (.int X),some (.int Y),some (.int ((Bs.countP fun B=>LO.inB B X Y:Nat):Int)),o8',?_,rfl⟩;rw[hf,List.filter_cons_of_neg (by rw[epk];exact tZ),List.filter_nil,uN]
 ·rintro σ H2 ⟨o4,o5,o6,o7,o8,rfl,rfl⟩;refine⟨_,rfl,?_⟩;have:=q _ (aq.refl _);rw[LO.pH,<-epr]at this;exact this
def g8(K:Frag):Sp:=fun vs H Q _=>∃(c:Nat),vs=[.int c]/\c<2^64/\∀l,H l=none->Q (.ref l) (upd H l (.lst ((bF c).map fun k:Nat=>V.int (k:Int))))
variable(cO:Df P w K mg base 2 "listed" ["cells"] (g8 K))
theorem mr:aD ["cells"] ["cells"] (av (top 3)):=by trivial
include B lY in
theorem mK(T:Tx K mg "listed" (top 3) ["cells"]):Df P w K mg base 2 "listed" ["cells"] (g8 K):=by
 refine T.df mr (by rintro _ _ _ _ ⟨c,rfl,hc,q⟩;rfl) ?_;rintro f _ A _ s H _ Q E hr ⟨c,rfl,hc,q⟩;refine⟨_,(aj (aF (dU ["cell"] [("cells",0)] (gK _ ["cells"]) rfl (by rfl) rfl (by trivial) (by trivial) (bP (by rfl)) (fz (by rfl)) (mC ⟨rfl,rfl⟩ mN) (mC rfl mN) (eS (by decide)) (c7 (by rfl) B.range (aa (qT PySem.F.plainAttrs_int PySem.F.slot_int_bit_length PySem.F.type_int_bit_length pK (pv 0)) ag)) (fun _ _ _ _=>aK (i:=0) (show(["cell","cells"]:List Str).Nodup by trivial) rfl (Or.inl rfl) (Or.inr rfl)) (fun _ _ _ _=>gp (iM (aH lY hr (aa (pv 1) (aa (pv 0) ag))))) (fun _ _ _ _=>(pv 0))))),?_⟩;have hb:=bits_le hc;refine⟨_,rfl,rfl,_,rfl,rfl,_,rfl,by omega,by omega,fun D hD=>?_⟩;refine gG (fun i acc H2=>H2=upd H D (.lst acc)/\acc=((List.range i).filter c.testBit).map fun k:Nat=>V.int (k:Int)) ⟨rfl,rfl⟩ ?_ ?_
 ·rintro i acc H2 hi ⟨rfl,rfl⟩;refine j0 ?_;intro kq1 kr1;have hi':i<Builtin.Int.intBits (c:Int):=by simpa using hi
  refine⟨_,rfl,_,rfl,c,_,rfl,_,rfl,?_⟩;rw[mB];refine bx (fun hb=>?_) (fun hb=>?_)
  ·refine⟨_,rfl,ae,?_,?_,?_⟩
   ·rw[tX];exact Nat.lt_of_le_of_lt (vk (List.length_filter_le _ _) (by rw[ve];omega)) (a8 (by decide:64<=1000))
   ·rw[oV]
   ·rw[vB,List.filter_append,uZ];simp[hb]
  ·refine⟨rfl,?_⟩;rw[vB,List.filter_append,uZ];simp[hb]
 ·rintro acc H2 ⟨rfl,rfl⟩;have e:((Builtin.Int.intBits (c:Int):Nat):Int).toNat=Builtin.Int.intBits (c:Int):=by simp
  rw[e,kT hc];exact q D hD
def dQ(K:Frag):Sp:=fun vs H Q _=>∃(a:Addr)(w h k:Nat),vs=[.ref a,.int (k:Nat)]/\SqT K H a [.int (w:Nat),.int (h:Nat)]/\(0<w/\w<=8)/\∀l vs H',aq H H'->H' l=some (.lst vs)->Paired (cP K H') vs (LO.jE ((k % w:Nat):Int) ((k / w:Nat):Int))->Q (.ref l) H'
variable(cf:Df P w K mg base 2 "sides_round" ["floor","cell"] (dQ K))
theorem bU:aD ["floor","cell","left","low","corners"] ["floor","cell"] (av (top 7)):=by trivial
include B bA cN in
theorem gw(T:Tx K mg "sides_round" (top 7) ["floor","cell"]):Df P w K mg base 2 "sides_round" ["floor","cell"] (dQ K):=by
 refine T.df bU (by rintro _ _ _ _ ⟨a,w,h,k,rfl,hT,⟨hw,hw8⟩,q⟩;rfl) ?_;rintro f _ A _ s H _ Q E hr ⟨a,w,h,k,rfl,hT,⟨hw,hw8⟩,q⟩;refine aW ?_;intro kX;refine ah 3 (aj (aF (dU ["place"] [("corners",4)] (gK _ ["corners"]) rfl (by rfl) rfl (by trivial) (by trivial) (bP (by rfl)) (fz (by rfl)) (mC ⟨rfl,rfl⟩ mN) (mC rfl mN) (eS (by decide)) (c7 (by rfl) B.range (aa ab ag)) (fun _ _ _ _=>aK (i:=0) (show(["place","corners"]:List Str).Nodup by trivial) rfl (Or.inl rfl) (Or.inr rfl)) (fun _ _ _ _=>gq) (fun _ _ _ _=>(aG (aa (ay (gE (K:=K) rfl) (pv 1) (ai a7 (pv 0) ab) (fun _ _=>rfl)) (aa (ay (gE (K:=K) rfl) (pv 1) (pv 0) (fun _ _=>rfl)) ag))))))) ?_;intro kR3 pR3;refine ah 2 (af (ao (i:=4) bU.nd rfl (by trivial) (bz (aa (aG (aa (pv 2) (aa (pv 3) ag))) (aa (aG (aa (ai aL (pv 2) ab) (aa (pv 3) ag))) (aa (aG (aa (ai aL (pv 2) ab) (aa (ai aL (pv 3) ab) ag))) (aa (aG (aa (pv 2) (aa (ai aL (pv 3) ab) ag))) ag)))))) pR3) ?_;intro kR2 pR2;refine ah 1 (af (ao (i:=3) bU.nd rfl (by trivial) (aH cN hr (aa (pv 0) (aa (pv 1) ag)))) pR2) ?_;intro kR1 pR1;refine⟨_,(af (ao (i:=2) bU.nd rfl (by trivial) (aH bA hr (aa (pv 0) (aa (pv 1) ag)))) pR1),?_⟩;refine⟨_,rfl,_,rfl,a,w,h,k,rfl,hT,⟨by omega,by omega⟩,?_⟩;refine⟨_,rfl,_,rfl,a,w,h,k,rfl,hT,⟨by omega,by omega⟩,?_⟩;obtain⟨x,ex⟩:∃x:Int,x=((k % w:Nat):Int):=⟨_,rfl⟩;obtain⟨y,ey⟩:∃y:Int,y=((k / w:Nat):Int):=⟨_,rfl⟩;have e1:((k:Nat):Int) % ((w:Nat):Int)=x:=by rw[ex];rfl
 have e2:((k:Nat):Int) / ((w:Nat):Int)=y:=by rw[ey];rfl
 rw[<-ex,<-ey]at q;simp only[e1,e2];refine⟨_,rfl,_,rfl,az rfl,fun t1 ht1=>?_⟩;have u1:=aq.upd (o:=.tup [.int x,.int y]) ht1;have k1:SqT K (upd H t1 (.tup [.int x,.int y])) t1 [.int x,.int y]:=SqT.of ae;generalize (upd H t1 (.tup [.int x,.int y]))=H1 at u1 k1 ⊢;refine⟨_,rfl,_,_,rfl,rfl,_,rfl,az rfl,fun t2 ht2=>?_⟩;have u2:=aq.upd (o:=.tup [.int (x+1),.int y]) ht2;have k2:SqT K (upd H1 t2 (.tup [.int (x+1),.int y])) t2 [.int (x+1),.int y]:=SqT.of ae;generalize (upd H1 t2 (.tup [.int (x+1),.int y]))=H2 at u2 k2 ⊢;refine⟨_,rfl,_,_,rfl,rfl,_,rfl,_,_,rfl,rfl,az rfl,fun t3 ht3=>?_⟩;have u3:=aq.upd (o:=.tup [.int (x+1),.int (y+1)]) ht3;have k3:SqT K (upd H2 t3 (.tup [.int (x+1),.int (y+1)])) t3 [.int (x+1),.int (y+1)]:=SqT.of ae;generalize (upd H2 t3 (.tup [.int (x+1),.int (y+1)]))=H3 at u3 k3 ⊢;refine⟨_,rfl,_,rfl,_,_,rfl,rfl,az rfl,fun t4 ht4=>?_⟩;have u4:=aq.upd (o:=.tup [.int x,.int (y+1)]) ht4;have k4:SqT K (upd H3 t4 (.tup [.int x,.int (y+1)])) t4 [.int x,.int (y+1)]:=SqT.of ae;generalize (upd H3 t4 (.tup [.int x,.int (y+1)]))=H4 at u4 k4 ⊢;refine⟨az rfl,fun lc hlc=>?_⟩;have u5:=aq.upd (o:=.lst [.ref t1,.ref t2,.ref t3,.ref t4]) hlc;have k5:(upd H4 lc (.lst [.ref t1,.ref t2,.ref t3,.ref t4])) lc=some (.lst [.ref t1,.ref t2,.ref t3,.ref t4]):=ae;have z1:=(u2.trans (u3.trans (u4.trans u5))).tup k1;have z2:=(u3.trans (u4.trans u5)).tup k2;have z3:=(u4.trans u5).tup k3;have z4:=u5.tup k4;have s5:=u1.trans (u2.trans (u3.trans (u4.trans u5)));generalize (upd H4 lc (.lst [.ref t1,.ref t2,.ref t3,.ref t4]))=H5 at k5 z1 z2 z3 z4 s5 ⊢;refine⟨4,rfl,by decide,by decide,fun D hD=>?_⟩;refine sQ (n:=4) (lo:=0) (fun i acc H6=>aq H5 H6/\H6 D=some (.lst acc)/\Paired (cP K H6) acc ((LO.jE x y).take i)) ⟨aq.upd hD,ae,.nil⟩ ?_ ?_
 ·rintro i acc H6 hi ⟨s6,h6,pr⟩;rw[show(0:Int)+(i:Int)=((i:Nat):Int) by omega];refine j0 ?_;intro kq1 kr1;obtain⟨p,r,s,a1,a2,a3,a4,a5⟩:∃p r s,atI [V.ref t1,.ref t2,.ref t3,.ref t4] (((i:Nat):Int)-1)=some (.ref p)/\atI [V.ref t1,.ref t2,.ref t3,.ref t4] ((i:Nat):Int)=some (.ref r)/\(LO.jE x y)[i]?=some s/\SqT K H5 p [.int s.x,.int s.y]/\SqT K H5 r [.int s.ex,.int s.ey]:=by
   match i,hi with
   | 0,_=>exact⟨t4,t1,_,rfl,rfl,rfl,z4,sq2 z1 (by show x=x+0;omega) (by show y=y+1+ -1;omega)⟩
   | 1,_=>exact⟨t1,t2,_,rfl,rfl,rfl,z1,sq2 z2 rfl (by show y=y+0;omega)⟩
   | 2,_=>exact⟨t2,t3,_,rfl,rfl,rfl,z2,sq2 z3 (by show x+1=x+1+0;omega) rfl⟩
   | 3,_=>exact⟨t3,t4,_,rfl,rfl,rfl,z3,sq2 z4 (by show x=x+1+ -1;omega) (by show y+1=y+1+0;omega)⟩
  have lacc:acc.length<sizeLine:=by rw[uj pr,uf];exact a8 (by omega)
  refine⟨_,rfl,_,rfl,_,_,rfl,rfl,lc,_,_,_,rfl,rfl,SqL.of (s6 _ _ k5),a1,_,rfl,_,rfl,lc,_,_,_,rfl,rfl,SqL.of (s6 _ _ k5),a2,az rfl,fun t ht=>?_⟩;have s7:=aq.upd (o:=.tup [.ref p,.ref r]) ht;have tk2:=TK.lst (o:=.lst (acc++[.ref t])) (s7 _ _ h6);refine⟨s7 _ _ h6,lacc,fun b5 o5 e5=>?_,ae,?_⟩
  ·rw[ax (fun z=>by rw[z,hD]at e5;cases e5)];exact s7 _ _ (s6 _ _ e5)
  ·rw[uq,a3,uw];exact Paired.app (Paired.imp (fun _ _ z=>(z.tk s7.tk).tk tk2) pr) (.cons (cP.tk tk2 ⟨t,rfl,p,r,SqT.of ae,(s6.trans s7).tup a4,(s6.trans s7).tup a5⟩) .nil)
 rintro acc H6 ⟨s6,h6,pr⟩;exact q D acc H6 (s5.trans s6) h6 pr
def dR(K:Frag)(P:Program)(w:World):Sp:=fun vs H Q _=>∃(d b:Addr)(o:Obj)(T:CT)(s:LO.Sd)(G:LO.Gr),vs=[.ref d,.ref b]/\b6 P w K H d o T/\(∀t,(L2.atT T (aN t)).isSome=LO.brd G t)/\LT.cR K H b s/\LO.brd G s=true/\∀c H',aq H H'->LT.cR K H' c (LO.nxt G s)->Q (.ref c) H'
variable(bG:Df P w K mg base 2 "side_behind" ["known","side"] (dR K P w))
theorem aR:aD ["known","side","x","y","over","up","to_left","straight","to_right"] ["known","side"] (av (top 10)):=by trivial
include B bC in
theorem gx(T:Tx K mg "side_behind" (top 10) ["known","side"]):Df P w K mg base 2 "side_behind" ["known","side"] (dR K P w):=by
 refine T.df aR (by rintro _ _ _ _ ⟨d,b,o,T,s,G,rfl,hA,hm,hs,hb,q⟩;rfl) ?_;rintro f _ A _ s H _ Q E hr ⟨d,b,o,T,s,G,rfl,hA,hm,hs,hb,q⟩;have hu:=hr.units;refine aW ?_;intro kX;refine ah 9 (aj (aF (pv 8))) ?_;intro kR9 pR9;refine ah 8 (af (bD (iN (nH hu (pv 7) (pv 0))) (aj (aF (pv 7))) aS) pR9) ?_;intro kR8 pR8;refine ah 7 (af (bD (iN (nH hu (pv 6) (pv 0))) (aj (aF (pv 6))) aS) pR8) ?_;intro kR7 pR7;refine ah 6 (af (ao (i:=8) aR.nd rfl (by trivial) (aG (aa (aG (aa (pv 2) (aa (pv 3) ag))) (aa (aG (aa (ai aL (pv 2) (pv 5)) (aa (ai a7 (pv 3) (pv 4)) ag))) ag)))) pR7) ?_;intro kR6 pR6;refine ah 5 (af (ao (i:=7) aR.nd rfl (by trivial) (aG (aa (aG (aa (pv 2) (aa (pv 3) ag))) (aa (aG (aa (ai aL (pv 2) (pv 4)) (aa (ai aL (pv 3) (pv 5)) ag))) ag)))) pR6) ?_;intro kR5 pR5;refine ah 4 (af (ao (i:=6) aR.nd rfl (by trivial) (aG (aa (aG (aa (pv 2) (aa (pv 3) ag))) (aa (aG (aa (ai a7 (pv 2) (pv 5)) (aa (ai aL (pv 3) (pv 4)) ag))) ag)))) pR5) ?_;intro kR4 pR4;refine ah 3 (af (ao (i:=5) aR.nd rfl (by trivial) (ay au (aH bC hr (aa (pv 1) ag)) ab (fun _ _=>rfl))) pR4) ?_;intro kR3 pR3;refine ah 2 (af (ao (i:=4) aR.nd rfl (by trivial) (ay au (aH bC hr (aa (pv 1) ag)) ab (fun _ _=>rfl))) pR3) ?_;intro kR2 pR2;refine ah 1 (af (ao (i:=3) aR.nd rfl (by trivial) (ay au (ay au (pv 1) ab (fun _ _=>rfl)) ab (fun _ _=>rfl))) pR2) ?_;intro kR1 pR1;refine⟨_,(af (ao (i:=2) aR.nd rfl (by trivial) (ay au (ay au (pv 1) ab (fun _ _=>rfl)) ab (fun _ _=>rfl))) pR1),?_⟩;obtain⟨p,r,h1,h2,h3⟩:=id hs;refine⟨_,rfl,b,_,_,_,rfl,rfl,h1,ak (j:=1) rfl,r,_,_,_,rfl,rfl,h3,ak (j:=0) rfl,?_⟩;refine⟨_,rfl,b,_,_,_,rfl,rfl,h1,ak (j:=1) rfl,r,_,_,_,rfl,rfl,h3,ak (j:=1) rfl,?_⟩;refine⟨_,rfl,b,s,rfl,hs,fun ls H1 s1 hls=>⟨ls,_,_,_,rfl,rfl,hls,ak (j:=0) rfl,?_⟩⟩;refine⟨_,rfl,b,s,rfl,aY s1.tk hs,fun ls' H1' s1' hls'=>?_⟩;replace s1:=s1.trans s1';clear hls s1';refine⟨ls',_,_,_,rfl,rfl,hls',ak (j:=1) rfl,?_⟩;generalize H1'=H1 at s1 hls';refine⟨_,rfl,_,rfl,az rfl,fun p1 hp1=>?_⟩;have v1:=aq.upd (o:=.tup [.int s.ex,.int s.ey]) hp1;refine⟨_,rfl,_,rfl,_,_,rfl,rfl,_,rfl,_,rfl,_,_,rfl,rfl,az rfl,fun p2 hp2=>?_⟩;have v2:=aq.upd (o:=.tup [.int (s.ex-s.d.dy),.int (s.ey+s.d.dx)]) hp2;refine⟨az rfl,fun p3 hp3=>?_⟩;have v3:=aq.upd (o:=.tup [.ref p1,.ref p2]) hp3;have L3:LT.cR K _ p3 ⟨s.ex,s.ey,s.d.lf⟩:=⟨p1,p2,SqT.of ae,(v2.trans v3).tup (SqT.of ae),v3.tup (sq2 (SqT.of ae) (by cases s.d<;>simp[LO.Sd.ex,LO.Dr.lf,LO.Dr.dx,LO.Dr.dy]<;>omega) (by cases s.d<;>simp[LO.Sd.ey,LO.Dr.lf,LO.Dr.dx,LO.Dr.dy]<;>omega))⟩;have s3:=s1.trans (v1.trans (v2.trans v3));generalize (upd (upd (upd H1 p1 (.tup [.int s.ex,.int s.ey])) p2 (.tup [.int (s.ex-s.d.dy),.int (s.ey+s.d.dx)])) p3 (.tup [.ref p1,.ref p2]))=H3 at L3 s3 ⊢;clear v1 v2 v3;refine⟨_,rfl,_,rfl,az rfl,fun q1 hq1=>?_⟩;have v1:=aq.upd (o:=.tup [.int s.ex,.int s.ey]) hq1;refine⟨_,rfl,_,rfl,_,_,rfl,rfl,_,rfl,_,rfl,_,_,rfl,rfl,az rfl,fun q2 hq2=>?_⟩;have v2:=aq.upd (o:=.tup [.int (s.ex+s.d.dx),.int (s.ey+s.d.dy)]) hq2;refine⟨az rfl,fun q3 hq3=>?_⟩;have v3:=aq.upd (o:=.tup [.ref q1,.ref q2]) hq3;have L4:LT.cR K _ q3 ⟨s.ex,s.ey,s.d⟩:=⟨q1,q2,SqT.of ae,(v2.trans v3).tup (SqT.of ae),v3.tup (SqT.of ae)⟩;have v13:=v1.trans (v2.trans v3);have s4:=s3.trans v13;have L34:=aY v13.tk L3;generalize (upd (upd (upd H3 q1 (.tup [.int s.ex,.int s.ey])) q2 (.tup [.int (s.ex+s.d.dx),.int (s.ey+s.d.dy)])) q3 (.tup [.ref q1,.ref q2]))=H4 at L4 L34 s4 ⊢;clear v1 v2 v3 v13 L3;refine⟨_,rfl,_,rfl,az rfl,fun r1 hr1=>?_⟩;have v1:=aq.upd (o:=.tup [.int s.ex,.int s.ey]) hr1;refine⟨_,rfl,_,rfl,_,_,rfl,rfl,_,rfl,_,rfl,_,_,rfl,rfl,az rfl,fun r2 hr2=>?_⟩;have v2:=aq.upd (o:=.tup [.int (s.ex+s.d.dy),.int (s.ey-s.d.dx)]) hr2;refine⟨az rfl,fun r3 hr3=>?_⟩;have v3:=aq.upd (o:=.tup [.ref r1,.ref r2]) hr3;have L5:LT.cR K _ r3 ⟨s.ex,s.ey,s.d.rt⟩:=⟨r1,r2,SqT.of ae,(v2.trans v3).tup (SqT.of ae),v3.tup (sq2 (SqT.of ae) (by cases s.d<;>simp[LO.Sd.ex,LO.Dr.rt,LO.Dr.dx,LO.Dr.dy]<;>omega) (by cases s.d<;>simp[LO.Sd.ey,LO.Dr.rt,LO.Dr.dx,LO.Dr.dy]<;>omega))⟩;have v13:=v1.trans (v2.trans v3);have s5:=s4.trans v13;have L35:=aY v13.tk L34;have L45:=aY v13.tk L4;generalize (upd (upd (upd H4 r1 (.tup [.int s.ex,.int s.ey])) r2 (.tup [.int (s.ex+s.d.dy),.int (s.ey-s.d.dx)])) r3 (.tup [.ref r1,.ref r2]))=H5 at L5 L45 L35 s5 ⊢;clear v1 v2 v3 v13 L34 L4;have hA5:b6 P w K H5 d o T:=⟨s5 _ _ hA.1,hA.2.1,hA.2.2.1,fun t ht=>(hA.2.2.2 t ht).tk s5.tk⟩;have en:LO.nxt G s=if LO.brd G ⟨s.ex,s.ey,s.d.lf⟩=true then⟨s.ex,s.ey,s.d.lf⟩else if LO.brd G ⟨s.ex,s.ey,s.d⟩=true then⟨s.ex,s.ey,s.d⟩else⟨s.ex,s.ey,s.d.rt⟩:=rfl
 refine⟨_,rfl,_,rfl,d,o,T,p3,_,rfl,hA5,rfl,bH L35,_,rfl,?_⟩;rw[hm];refine bx (fun z=>?_) (fun z=>?_)
 ·replace z:LO.brd G ⟨s.ex,s.ey,s.d.lf⟩=true:=z;rw[en,tU z]at q;exact⟨_,rfl,q p3 _ s5 L35⟩
 replace z:¬LO.brd G ⟨s.ex,s.ey,s.d.lf⟩=true:=z;refine⟨_,rfl,_,rfl,d,o,T,q3,_,rfl,hA5,rfl,bH L45,_,rfl,?_⟩;rw[hm];refine bx (fun z'=>?_) (fun z'=>?_)
 ·replace z':LO.brd G ⟨s.ex,s.ey,s.d⟩=true:=z';rw[en,tV z,tU z']at q;exact⟨_,rfl,q q3 _ s5 L45⟩
 ·replace z':¬LO.brd G ⟨s.ex,s.ey,s.d⟩=true:=z';rw[en,tV z,tV z']at q;exact⟨_,rfl,q r3 _ s5 L5⟩
def eE(K:Frag):Sp:=fun vs H Q _=>∃(a:Addr)(xs:List V)(W:List LO.Sd),vs=[.ref a]/\H a=some (.lst xs)/\Paired (cP K H) xs W/\W.length<=256/\∀l ys H',H l=none->aq H H'->H' l=some (.lst ys)->Paired (PtE K H') ys (LO.bL W)->Q (.ref l) H'
variable(cH:Df P w K mg base 2 "corners_of" ["walk"] (eE K))
theorem gP:aD ["walk"] ["walk"] (av (top 12)):=by trivial
include B bC in
theorem gV(T:Tx K mg "corners_of" (top 12) ["walk"]):Df P w K mg base 2 "corners_of" ["walk"] (eE K):=by
 refine T.df gP (by rintro _ _ _ _ ⟨a,xs,W,rfl,hx,pw,l256,q⟩;rfl) ?_;rintro f _ A _ s H _ Q E hr ⟨a,xs,W,rfl,hx,pw,l256,q⟩;have hu:=hr.units;refine⟨_,(aj (aF (dU ["place","side"] [("walk",0)] (gK _ ["walk"]) rfl (by rfl) rfl (by trivial) (by trivial) (bP (by rfl)) (fz (by rfl)) (mC ⟨rfl,rfl⟩ mN) (mC rfl mN) (oR (by decide) (by decide) (by decide)) (gr (by rfl) B.enumerate (aa (pv 0) ag)) (fun _ _ _ _=>pC (K:=K) rfl rfl (dc (aK (i:=0) (show(["place","side","walk"]:List Str).Nodup by trivial) rfl (Or.inl rfl) (Or.inr rfl)) (dc (aK (i:=1) (show(["place","side","walk"]:List Str).Nodup by trivial) rfl (Or.inl rfl) (Or.inr rfl)) iO))) (fun _ _ _ _=>gp (aP (pE (K:=K) rfl hu) (aH bC hr (aa (pv 1) ag)) (aH bC hr (aa (ay (gE (K:=K) rfl) (pv 2) (ai a7 (pv 0) ab) (fun _ _=>rfl)) ag)) (aJ _))) (fun _ _ _ _=>(ay (i6 (K:=K) rfl) (pv 1) ab (fun _ _=>rfl)))))),?_⟩;refine⟨_,rfl,a,rfl,⟨_,SqL.of hx⟩,fun D hD=>?_⟩;refine sR (K:=K) (a:=a) (xs:=xs) (fun i acc H6=>aq H H6/\H6 D=some (.lst acc)/\Paired (PtE K H6) acc (LO.cor ((W.getLast?.map (fun s=>s.d)).getD .e) (W.take i))) ⟨aq.upd hD,ae,.nil⟩ (fun i acc H6 _ z=>SqL.of (z.1 _ _ hx)) ?_ ?_
 ·rintro i v acc H6 N hi ⟨s6,h6,pr⟩ hN;obtain⟨v',sd,td,a1,hsd,⟨b,rfl,hs⟩,hl,⟨b',rfl,hs'⟩⟩:=dW pw hi;have u7:=aq.upd (o:=.tup [.int (i:Nat),.ref b]) hN;have k7:SqT K (upd H6 N (.tup [.int (i:Nat),.ref b])) N [.int (i:Nat),.ref b]:=SqT.of ae;have s7:=s6.trans u7;have h7:=u7 _ _ h6;have pr7:=Paired.imp (fun _ _ z=>PtE.tk u7.tk z) pr;generalize (upd H6 N (.tup [.int (i:Nat),.ref b]))=H7 at u7 k7 s7 h7 pr7 ⊢;refine⟨N,_,rfl,k7,rfl,_,_,rfl,_,_,rfl,rfl,?_⟩;refine⟨_,rfl,b,sd,rfl,aY s7.tk hs,fun l1 H8 s8 k8=>?_⟩;refine⟨_,rfl,_,rfl,_,_,rfl,rfl,a,_,_,_,rfl,rfl,SqL.of (s8 _ _ (s7 _ _ hx)),a1,?_⟩;refine⟨b',td,rfl,aY (s7.trans s8).tk hs',fun l2 H9 s9 k9=>?_⟩;refine⟨_,_,rp (s9.tup k8),rp k9,rfl,rfl,Nat.le_of_ble_eq_true rfl,?_⟩;rw[qc];have h9:=s9 _ _ (s8 _ _ h7);have s69:=s7.trans (s8.trans s9);have pr9:=Paired.imp (fun _ _ z=>PtE.tk (s8.trans s9).tk z) pr7;have ec:LO.cor ((W.getLast?.map (fun s=>s.d)).getD .e) (W.take (i+1))=LO.cor ((W.getLast?.map (fun s=>s.d)).getD .e) (W.take i)++(if sd.d≠td.d then[sd.st]else[]):=by
   rw[uq,hsd,uw,kc,qP hl]
  rw[ec];refine⟨_,rfl,?_⟩;refine bx (fun z=>?_) (fun z=>?_)
  ·have ne:sd.d≠td.d:=fun y=>by
    replace z:(!decide (sd.d=td.d))=true:=z;rw[y]at z;simp at z
   rw[tU ne];obtain⟨p,r,e1,e2,_⟩:=aY s69.tk hs;have lacc:acc.length<sizeLine:=by rw[uj pr];have:=je ((W.getLast?.map (fun s=>s.d)).getD .e) (W.take i);rw[uf]at this;exact a8 (by omega)
   have tk2:=TK.lst (o:=.lst (acc++[.ref p])) h9;refine⟨_,rfl,b,_,_,_,rfl,rfl,e1,ak (j:=0) rfl,h9,lacc,fun b5 o5 e5=>?_,ae,?_⟩
   ·rw[ax (fun z=>by rw[z,hD]at e5;cases e5)];exact s69 _ _ e5
   ·exact Paired.app (Paired.imp (fun _ _ z=>z.tk tk2) pr9) (.cons ⟨p,rfl,tk2.sq e2⟩ .nil)
  ·have e:sd.d=td.d:=by
    replace z:¬(!decide (sd.d=td.d))=true:=z;simpa using z
   rw[tV (fun y=>y e),uN];exact⟨s69,h9,pr9⟩
 rintro acc H6 ⟨s6,h6,pr⟩;rw[uj pw,uG]at pr;exact q D acc H6 hD s6 h6 pr
def eD(K:Frag):Sp:=fun vs H Q _=>∃(c:Int)(w h:Nat),vs=[.int c,.int w,.int h]/\(0<w/\w<=8/\0<h/\h<=8)/\∀(v:Nat) H',v<2^(w*h)->aq H H'->Q (.int v) H'
variable(cG:Df P w K mg base 2 "_law_ground" ["_law_cell","_law_wide","_law_high"] (eD K))
theorem aO:aD ["_law_cell","_law_wide","_law_high","_law_many","_law_rest","_law_way","_law_found"] ["_law_cell","_law_wide","_law_high"] (av (top 23)):=by trivial
include B bh cW in
theorem gU(T:Tx K mg "_law_ground" (top 23) ["_law_cell","_law_wide","_law_high"]):Df P w K mg base 2 "_law_ground" ["_law_cell","_law_wide","_law_high"] (eD K):=by
 refine T.df aO (by rintro _ _ _ _ ⟨c,w,h,rfl,⟨hw,hw8,hh,hh8⟩,q⟩;rfl) ?_;rintro f _ A _ s H _ Q E hr ⟨c,w,h,rfl,⟨hw,hw8,hh,hh8⟩,q⟩;refine aW ?_;intro kX;refine ah 9 (aj (aF (ai aI (pv 6) (ai dz ab (pv 3))))) ?_;intro kR9 pR9;refine ah 8 (b7 (bD (aP bS (pv 5) ab (aJ _)) (aj (ao (i:=6) aO.nd rfl (by trivial) (ay cT (bz (aa ab (aa (ai dz ab (ai aI (pv 4) (pv 3))) (aa (ai a7 (ai dz ab (pv 3)) ab) ag)))) (ai aI (ai aQ (pv 4) (pv 3)) ab) (fun _ _=>rfl)))) aS) pR9) ?_;intro kR8 pR8;refine ah 7 (b7 (bD (aP bS (pv 5) ab (aJ _)) (aj (ao (i:=6) aO.nd rfl (by trivial) (aH cW hr (aa (pv 4) (aa (pv 1) (aa (pv 2) ag)))))) aS) pR8) ?_;intro kR7 pR7;refine ah 6 (b7 (bD (aP bS (pv 5) ab (aJ _)) (aj (ao (i:=6) aO.nd rfl (by trivial) (ai a7 (ai a7 (ai dz ab (pv 3)) ab) (ai dz ab (ai aI (pv 4) (pv 3)))))) aS) pR7) ?_;intro kR6 pR6;refine ah 5 (b7 (bD (aP bS (pv 5) ab (aJ _)) (aj (ao (i:=6) aO.nd rfl (by trivial) (ai nN (pv 6) (aH bh hr (aa (ai aL (ai aQ (pv 4) ab) ab) ag))))) aS) pR6) ?_;intro kR5 pR5;refine ah 4 (b7 (bD (aP bS (pv 5) ab (aJ _)) (aj (ao (i:=6) aO.nd rfl (by trivial) (ai qw (pv 6) (aH bh hr (aa (ai aL (ai aQ (pv 4) ab) ab) ag))))) aS) pR5) ?_;intro kR4 pR4;refine ah 3 (af (ao (i:=6) aO.nd rfl (by trivial) (aH bh hr (aa (pv 4) ag))) pR4) ?_;intro kR3 pR3;refine ah 2 (af (ao (i:=5) aO.nd rfl (by trivial) (ai aI (pv 0) ab)) pR3) ?_;intro kR2 pR2;refine ah 1 (af (ao (i:=4) aO.nd rfl (by trivial) (ai aQ (pv 0) ab)) pR2) ?_;intro kR1 pR1;refine⟨_,(af (ao (i:=3) aO.nd rfl (by trivial) (ai cY (pv 1) (pv 2))) pR1),?_⟩;have hwh:w*h<=64:=Nat.mul_le_mul hw8 hh8;have hwp:0<w*h:=Nat.mul_pos hw hh;have e1:((w:Int)*(h:Int))=((w*h:Nat):Int):=by simp
 have fin:∀(v:Int) H',aq H H'->Q (.int (v % (1*2^(((w*h:Nat):Int)).toNat))) H':=fun v H' s=>by obtain⟨z,ez,hz⟩:=pL v (w*h);rw[ez];exact q z H' hz s
 refine⟨_,rfl,_,rfl,_,_,rfl,rfl,.inl ⟨by omega,by omega⟩,_,rfl,_,_,rfl,rfl,⟨by decide,by decide⟩,_,rfl,_,_,rfl,rfl,(by show(0:Int)<_;decide),?_⟩;simp only[e1];refine⟨_,rfl,_,rfl,fun v=>?_⟩;have s0:=aq.refl H;refine⟨fun σ' H'=>∃v:Int,σ'=[some (.int c),some (.int w),some (.int h),some (.int ((w*h:Nat):Int)),some (.int (c / 8)),some (.int (c % 8)),some (.int v)]/\aq H H',?_,?_⟩
 ·refine ip ?_;intro kD1;refine⟨_,rfl,rfl,_,rfl,?_⟩;refine bx (fun h1=>?_) (fun h1=>?_)
  ·refine⟨_,rfl,_,rfl,_,_,rfl,rfl,⟨by decide,by decide⟩,_,_,rfl,rfl,_,rfl,fun v2=>⟨_,_,rfl,rfl,?_⟩⟩;exact⟨_,rfl,s0⟩
  ·exact⟨_,rfl,s0⟩
 rintro σ' H1 ⟨v,rfl,s1⟩;refine⟨fun σ' H'=>∃v:Int,σ'=[some (.int c),some (.int w),some (.int h),some (.int ((w*h:Nat):Int)),some (.int (c / 8)),some (.int (c % 8)),some (.int v)]/\aq H H',?_,?_⟩
 ·refine ip ?_;intro kD2;refine⟨_,rfl,rfl,_,rfl,?_⟩;refine bx (fun h1=>?_) (fun h1=>?_)
  ·refine⟨_,rfl,_,rfl,_,_,rfl,rfl,⟨by decide,by decide⟩,_,_,rfl,rfl,_,rfl,fun v2=>⟨_,_,rfl,rfl,?_⟩⟩;exact⟨_,rfl,s1⟩
  ·exact⟨_,rfl,s1⟩
 rintro σ' H2 ⟨v,rfl,s2⟩;refine⟨fun σ' H'=>∃v:Int,σ'=[some (.int c),some (.int w),some (.int h),some (.int ((w*h:Nat):Int)),some (.int (c / 8)),some (.int (c % 8)),some (.int v)]/\aq H H',?_,?_⟩
 ·refine ip ?_;intro kD3;refine⟨_,rfl,rfl,_,rfl,?_⟩;refine bx (fun h1=>?_) (fun h1=>?_)
  ·refine⟨_,rfl,_,_,rfl,rfl,⟨by omega,by omega,by decide⟩,_,_,rfl,rfl,_,rfl,_,rfl,_,_,rfl,rfl,(by omega),_,_,rfl,rfl,⟨u6 _ (by omega),by have:=uR (c / 8) (show(0:Int)<((w*h:Nat):Int) by omega);omega,by decide⟩,_,_,rfl,rfl,?_⟩;exact⟨_,rfl,s2⟩
  ·exact⟨_,rfl,s2⟩
 rintro σ' H3 ⟨v,rfl,s3⟩;refine⟨fun σ' H'=>∃v:Int,σ'=[some (.int c),some (.int w),some (.int h),some (.int ((w*h:Nat):Int)),some (.int (c / 8)),some (.int (c % 8)),some (.int v)]/\aq H H',?_,?_⟩
 ·refine ip ?_;intro kD4;refine⟨_,rfl,rfl,_,rfl,?_⟩;refine bx (fun h1=>?_) (fun h1=>?_)
  ·refine⟨_,rfl,_,rfl,_,rfl,_,w,h,rfl,⟨hw,hw8,hh,hh8⟩,fun v4 H' s'=>?_⟩;exact⟨_,rfl,s3.trans s'⟩
  ·exact⟨_,rfl,s3⟩
 rintro σ' H4 ⟨v,rfl,s4⟩;refine⟨fun σ' H'=>∃v:Int,σ'=[some (.int c),some (.int w),some (.int h),some (.int ((w*h:Nat):Int)),some (.int (c / 8)),some (.int (c % 8)),some (.int v)]/\aq H H',?_,?_⟩
 ·refine ip ?_;intro kD5;refine⟨_,rfl,rfl,_,rfl,?_⟩;refine bx (fun h1=>?_) (fun h1=>?_)
  ·refine⟨_,rfl,_,rfl,_,_,rfl,rfl,(by omega),_,_,rfl,rfl,⟨u6 _ (by omega),by have:=uR (c / 8) (show(0:Int)<((w*h:Nat):Int) by omega);omega,by decide⟩,_,rfl,_,_,rfl,rfl,⟨by omega,by omega,by decide⟩,_,_,rfl,rfl,az rfl,fun l hl=>?_⟩;have y3:∃v5:Int,atI [V.int 0,.int (1*2^(c / 8 % ((w*h:Nat):Int)).toNat),.int (1*2^(((w*h:Nat):Int)).toNat-1)] (c / 8 / ((w*h:Nat):Int) % 3)=some (.int v5):=by
    have y4:c / 8 / ((w*h:Nat):Int) % 3=0\/c / 8 / ((w*h:Nat):Int) % 3=1\/c / 8 / ((w*h:Nat):Int) % 3=2:=(by omega);rcases y4 with y|y|y<;>rw[y]<;>exact⟨_,rfl⟩
   obtain⟨v5,y3⟩:=y3;refine⟨_,rfl,_,rfl,_,_,rfl,rfl,⟨by omega,by omega⟩,_,_,rfl,rfl,(by show(0:Int)<_;decide),l,_,_,_,rfl,rfl,SqL.of ae,y3,?_⟩;exact⟨_,rfl,s4.trans (aq.upd hl)⟩
  ·exact⟨_,rfl,s4⟩
 rintro σ' H5 ⟨v,rfl,s5⟩;exact⟨_,rfl,_,rfl,_,_,rfl,rfl,⟨by omega,by omega,by decide⟩,_,_,rfl,rfl,nG _,fin _ _ s5⟩
def eV(K:Frag):Sp:=fun vs H Q _=>∃(c wd hh:Int),vs=[.int c,.int wd,.int hh]/\(0<wd/\wd<=8)/\(0<hh/\hh<=8)/\∀l vs Bs H',H l=none->aq H H'->H' l=some (.lst vs)->Paired (dG K H') vs Bs->LO.qE wd hh Bs->Q (.ref l) H'
variable(cX:Df P w K mg base 2 "_law_boxes" ["_law_cell","_law_wide","_law_high"] (eV K))
theorem cA:aD ["_law_cell","_law_wide","_law_high","_law_box_here","_law_way","_law_right"] ["_law_cell","_law_wide","_law_high"] (av (top 26)):=by trivial
include B eg in
theorem iU(T:Tx K mg "_law_boxes" (top 26) ["_law_cell","_law_wide","_law_high"]):Df P w K mg base 2 "_law_boxes" ["_law_cell","_law_wide","_law_high"] (eV K):=by
 refine T.df cA (by rintro _ _ _ _ ⟨c,wd,hh,rfl,⟨hw,hw8⟩,⟨hh0,hh8⟩,q⟩;rfl) ?_;rintro f _ A _ s H _ Q E hr ⟨c,wd,hh,rfl,⟨hw,hw8⟩,⟨hh0,hh8⟩,q⟩;refine aW ?_;intro kX;refine ah 4 (aj (aF (bz (aa (pv 3) ag)))) ?_;intro kR4 pR4;refine ah 3 (af (bD (aP bS (pv 4) ab (aJ _)) (af (ao (i:=5) cA.nd rfl (by trivial) (ai aL (ai aL (ay au (pv 3) ab (fun _ _=>rfl)) ab) (ai aI (ai aQ (pv 0) ab) (ai a7 (pv 1) (ay au (pv 3) ab (fun _ _=>rfl)))))) (aj (aF (bz (aa (pv 3) (aa (aG (aa (ay au (pv 3) ab (fun _ _=>rfl)) (aa (ay au (pv 3) ab (fun _ _=>rfl)) (aa (pv 5) (aa (ai aL (ai aL (ay au (pv 3) ab (fun _ _=>rfl)) ab) (ai aI (ai aQ (pv 0) ab) (ai a7 (pv 2) (ay au (pv 3) ab (fun _ _=>rfl))))) ag))))) ag)))))) aS) pR4) ?_;intro kR3 pR3;refine ah 2 (af (bD (aP bS (pv 4) ab (aJ _)) (aj (aF (bz (aa (pv 3) (aa (pv 3) ag))))) aS) pR3) ?_;intro kR2 pR2;refine ah 1 (af (ao (i:=4) cA.nd rfl (by trivial) (ai aI (ai aQ (pv 0) ab) ab)) pR2) ?_;intro kR1 pR1;refine⟨_,(af (ao (i:=3) cA.nd rfl (by trivial) (aH eg hr (aa (pv 0) (aa (pv 1) (aa (pv 2) ag))))) pR1),?_⟩;refine⟨_,rfl,_,rfl,_,rfl,c,wd,hh,rfl,⟨hw,hw8⟩,⟨hh0,hh8⟩,fun t B H1 s1 hB ok=>?_⟩;refine⟨_,rfl,_,_,rfl,rfl,⟨by decide,by decide⟩,_,_,rfl,rfl,(by show(0:Int)<4;decide),?_⟩;refine⟨_,rfl,rfl,_,rfl,?_⟩;refine bx (fun _=>?_) (fun _=>?_)
 ·refine⟨_,rfl,_,rfl,az rfl,fun l hl=>?_⟩;have u2:=aq.upd (o:=.lst [.ref t,.ref t]) hl;exact q l _ [B,B] _ (none_of s1 hl) (s1.trans u2) ae (.cons ⟨t,rfl,hB.tk u2.tk⟩ (.cons ⟨t,rfl,hB.tk u2.tk⟩ .nil)) ⟨by simp,by simp,by simpa using ok,by simp⟩
 refine⟨_,rfl,rfl,_,rfl,?_⟩;refine bx (fun _=>?_) (fun _=>?_)
 ·have x0:=ok.x0;have x1:=ok.x1;have x2:=ok.x2;have y0:=ok.y0;have y1:=ok.y1;have y2:=ok.y2;have r1:=u6 (c / 32768) (show wd-B.1≠0 by omega);have r2:=uR (c / 32768) (show 0<wd-B.1 by omega);have t1:=u6 (c / 262144) (show hh-B.2.1≠0 by omega);have t2:=uR (c / 262144) (show 0<hh-B.2.1 by omega);refine⟨_,rfl,t,_,_,_,rfl,rfl,hB,ak (j:=0) rfl,_,_,rfl,rfl,_,rfl,_,_,rfl,rfl,⟨by decide,by decide⟩,_,rfl,_,rfl,t,_,_,_,rfl,rfl,hB,ak (j:=0) rfl,_,_,rfl,rfl,_,_,rfl,rfl,(by show 0<wd-B.1;omega),_,_,rfl,rfl,?_⟩;refine⟨_,rfl,_,rfl,t,_,_,_,rfl,rfl,hB,ak (j:=0) rfl,_,rfl,t,_,_,_,rfl,rfl,hB,ak (j:=1) rfl,_,rfl,_,rfl,t,_,_,_,rfl,rfl,hB,ak (j:=1) rfl,_,_,rfl,rfl,_,rfl,_,_,rfl,rfl,⟨by decide,by decide⟩,_,rfl,_,rfl,t,_,_,_,rfl,rfl,hB,ak (j:=1) rfl,_,_,rfl,rfl,_,_,rfl,rfl,(by show 0<hh-B.2.1;omega),_,_,rfl,rfl,az rfl,fun t2 ht2=>⟨az rfl,fun l hl=>?_⟩⟩;have u2:=aq.upd (o:=.tup [.int B.1,.int B.2.1,.int (B.1+1+c / 32768 % (wd-B.1)),.int (B.2.1+1+c / 262144 % (hh-B.2.1))]) ht2;have u3:=aq.upd (o:=.lst [.ref t,.ref t2]) hl;have e2:kW K (upd H1 t2 (.tup [.int B.1,.int B.2.1,.int (B.1+1+c / 32768 % (wd-B.1)),.int (B.2.1+1+c / 262144 % (hh-B.2.1))])) t2 (B.1,B.2.1,B.1+1+c / 32768 % (wd-B.1),B.2.1+1+c / 262144 % (hh-B.2.1)):=SqT.of ae;refine q l _ [B,(B.1,B.2.1,B.1+1+c / 32768 % (wd-B.1),B.2.1+1+c / 262144 % (hh-B.2.1))] _ (none_of (s1.trans u2) hl) (s1.trans (u2.trans u3)) ae (.cons ⟨t,rfl,hB.tk (u2.trans u3).tk⟩ (.cons ⟨t2,rfl,e2.tk u3.tk⟩ .nil)) ⟨by simp,by simp,fun C hC=>?_,fun C hC D hD=>?_⟩
  ·rcases uy.mp hC with z|z
   ·exact z▸ok
   ·rw[ua.mp z];exact⟨x0,by show B.1<B.1+1+_;omega,by show B.1+1+_<=wd;omega,y0,by show B.2.1<B.2.1+1+_;omega,by show B.2.1+1+_<=hh;omega⟩
  ·have one:∀C,C∈[B,(B.1,B.2.1,B.1+1+c / 32768 % (wd-B.1),B.2.1+1+c / 262144 % (hh-B.2.1))]->C.1=B.1/\C.2.1=B.2.1:=fun C hC=>by
    rcases uy.mp hC with z|z
    ·rw[z];exact⟨rfl,rfl⟩
    ·rw[ua.mp z];exact⟨rfl,rfl⟩
   exact⟨(one C hC).1.trans (one D hD).1.symm,(one C hC).2.trans (one D hD).2.symm⟩
 ·refine⟨_,rfl,az rfl,fun l hl=>?_⟩;have u2:=aq.upd (o:=.lst [.ref t]) hl;exact q l _ [B] _ (none_of s1 hl) (s1.trans u2) ae (.cons ⟨t,rfl,hB.tk u2.tk⟩ .nil) ⟨by simp,by simp,by simpa using ok,by simp⟩
def jy(K:Frag)(P:Program)(w:World):Sp:=fun vs H Q _=>∃(a:Addr)(wd hh g:Nat),vs=[.ref a,.int (g:Nat)]/\SqT K H a [.int (wd:Nat),.int (hh:Nat)]/\(0<wd/\wd<=8)/\(0<hh/\hh<=8)/\g<2^(wd*hh)/\∀l vs U H',aq H H'->H' l=some (.lst vs)->Paired (cP K H') vs U->U.Nodup->(∀t,t∈U<->LO.brd (LO.grd wd hh g) t=true)->U.Pairwise (fun s t=>LT.sdN s<=LT.sdN t)->U.length<=256->Q (.ref l) H'
variable(fR:Df P w K mg base 3 "sides" ["floor","cells"] (jy K P w))
theorem eZ:aD ["floor","cells","known","cell","side"] ["floor","cells"] (av (top 8)):=by trivial
include B cO cf in
theorem nP(T:Tx K mg "sides" (top 8) ["floor","cells"]):Df P w K mg base 3 "sides" ["floor","cells"] (jy K P w):=by
 refine T.df eZ (by rintro _ _ _ _ ⟨a,wd,hh,g,rfl,hT,⟨hw,hw8⟩,⟨hh0,hh8⟩,hg,q⟩;rfl) ?_;rintro f _ A _ s H _ Q E hr ⟨a,wd,hh,g,rfl,hT,⟨hw,hw8⟩,⟨hh0,hh8⟩,hg,q⟩;have hu:=hr.units;refine aW ?_;intro kX;refine ah 2 (aj (aF (cL (LT.kP hu) (by rfl) B.sorted (by trivial) (aa (dU ["side"] [("known",2)] (gK _ ["known"]) rfl (by rfl) rfl (by trivial) (by trivial) (bP (by rfl)) (fz (by rfl)) (mC ⟨rfl,rfl⟩ mN) (mC rfl mN) (eS (by decide)) (qQ (pv 2)) (fun _ _ _ _=>aK (i:=0) (show(["side","known"]:List Str).Nodup by trivial) rfl (Or.inl rfl) (Or.inr rfl)) (fun _ _ _ _=>gp (iN (kB (P:=P) (w:=w) (K:=K) rfl rfl rfl hu (aG (aa (ay (i6 (K:=K) rfl) (pv 0) ab (fun _ _=>rfl)) (aa (ay (i6 (K:=K) rfl) (pv 0) ab (fun _ _=>rfl)) ag))) (pv 1)))) (fun _ _ _ _=>(pv 0))) ag)))) ?_;intro kR2 pR2;refine ah 1 (af (bM uL rfl (bV (aH cO hr (aa (pv 1) ag))) (aK (i:=3) eZ.nd rfl (by trivial)) (aj (bM uL rfl (bV (aH cf hr (aa (pv 0) (aa (pv 3) ag)))) (aK (i:=4) eZ.nd rfl (by trivial)) (aj (lH hu (pv 2) (pv 4) h8 rfl))))) pR2) ?_;intro kR1 pR1;refine⟨_,(af (ao (i:=2) eZ.nd rfl (by trivial) jL) pR1),?_⟩;intro d hd nm;have u1:=aq.upd (o:=bY d cM) hd;have c1:b6 P w K (upd H d (bY d cM)) d cM []:=⟨ae,gJ P w,nm,fun t ht=>nomatch ht⟩;generalize (upd H d (bY d cM))=H1 at u1 c1 ⊢;have g64:g<2^64:=ud hg (vK (by decide) (vk (Nat.mul_le_mul hw8 hh8) (by decide)));have ll:(bF g).length<=64:=by have:=(List.filter_sublist (p:=g.testBit) (l:=List.range 64)).length_le;rwa[ve]at this
 refine⟨_,rfl,g,rfl,g64,fun lc hlc=>?_⟩;have u2:=aq.upd (o:=.lst ((bF g).map fun k:Nat=>V.int (k:Int))) hlc;have k2:(upd H1 lc (.lst ((bF g).map fun k:Nat=>V.int (k:Int)))) lc=some (.lst ((bF g).map fun k:Nat=>V.int (k:Int))):=ae;have c2:=bO u2 c1;replace u2:=u1.trans u2;generalize (upd H1 lc (.lst ((bF g).map fun k:Nat=>V.int (k:Int))))=H2 at u2 k2 c2 ⊢;obtain⟨X,eX⟩:∃X:Nat->List LO.Sd,X=fun k=>LO.jE ((k % wd:Nat):Int) ((k / wd:Nat):Int):=⟨_,rfl⟩;refine⟨lc,rfl,⟨_,SqL.of k2⟩,bW (K:=K) (a:=lc) (xs:=(bF g).map fun k:Nat=>V.int (k:Int)) (fun i σ H3=>∃(o3 o4:Option V)(o:Obj)(T:CT),σ=[some (.ref a),some (.int (g:Nat)),some (.ref d),o3,o4]/\aq H H3/\H3 lc=some (.lst ((bF g).map fun k:Nat=>V.int (k:Int)))/\b6 P w K H3 d o T/\Kn T (fun s=>∃k∈(bF g).take i,s∈X k)/\T.length<=4*i) ⟨none,none,_,_,rfl,u2,k2,c2,kK.congr fun s=>by simp,uJ _⟩ (fun i σ H3 _ hPz=>hPz.elim fun _ hPz=>hPz.elim fun _ hPz=>hPz.elim fun _ hPz=>hPz.elim fun _ hPz=>(fun z=>SqL.of z) (hPz.2.2.1)) ?_ ?_⟩
 ·rintro i v σ H3 hi ⟨o3,o4,o,T,rfl,s3,k3,c3,kn,lT⟩;refine dj ?_;intro kD1;rw[uV]at hi;obtain⟨k,hk,rfl⟩:=Option.map_eq_some_iff.mp hi;have i64:i<64:=by
   have:=(t8.mp hk).1;omega
  refine⟨_,rfl,_,rfl,a,wd,hh,k,rfl,s3.tup hT,⟨hw,hw8⟩,fun lr vr H4 s4 hr pr=>?_⟩;have eR:LO.jE ((k % wd:Nat):Int) ((k / wd:Nat):Int)=X k:=by rw[eX]
  rw[eR]at pr;have l4:(X k).length=4:=by rw[eX];rfl
  refine⟨lr,rfl,⟨_,SqL.of hr⟩,bW (K:=K) (a:=lr) (xs:=vr) (fun j σ H5=>∃(o4:Option V)(o:Obj)(T:CT),σ=[some (.ref a),some (.int (g:Nat)),some (.ref d),some (.int (k:Nat)),o4]/\aq H H5/\H5 lc=some (.lst ((bF g).map fun k:Nat=>V.int (k:Int)))/\H5 lr=some (.lst vr)/\Paired (cP K H5) vr (X k)/\b6 P w K H5 d o T/\Kn T (fun s=>(∃k∈(bF g).take i,s∈X k)\/s∈(X k).take j)/\T.length<=4*i+j) ⟨o4,o,T,rfl,s3.trans s4,s4 _ _ k3,hr,pr,bO s4 c3,kn.congr fun s=>by simp,lT⟩ (fun j σ H5 _ hPz=>hPz.elim fun _ hPz=>hPz.elim fun _ hPz=>hPz.elim fun _ hPz=>(fun z=>SqL.of z) (hPz.2.2.2.1)) ?_ ?_⟩
  ·rintro j v σ H5 hj ⟨o4',o5,T5,rfl,s5,k5,r5,pr5,c5,kn5,lT5⟩;refine dj ?_;intro kD2;obtain⟨sd,hsd,b,rfl,hb⟩:=a9 pr5 hj;have j4:j<4:=by
    have:=(t8.mp hsd).1;omega
   refine⟨_,rfl,_,rfl,d,o5,T5,b,_,rfl,c5,rfl,bH hb,by omega,fun o' ho'=>?_⟩;have tk:=TK.obj (o:=bY d o') c5.1;refine⟨_,o',_,rfl,fun b5 o5 e5=>?_,?_,?_,Paired.imp (fun _ _ z=>cP.tk tk z) pr5,iw c5 (bH hb) ho',(kJ kn5 sd b _).congr fun s=>?_,?_⟩
   ·rw[ax (fun z=>by rw[z,hd]at e5;cases e5)];exact s5 _ _ e5
   ·rw[ax (fun z=>by rw[z,c5.1]at k5;cases k5)];exact k5
   ·rw[ax (fun z=>by rw[z,c5.1]at r5;cases r5)];exact r5
   ·rw[uq,hsd,uw,ub,ua,or_assoc]
   ·have:=jG T5 (aN sd) b (.bl true);omega
  ·rintro σ H5 ⟨o4',o5,T5,rfl,s5,k5,r5,pr5,c5,kn5,lT5⟩;rw[uj pr5,l4]at lT5;rw[uj pr5,uG]at kn5;refine⟨_,_,o5,T5,rfl,s5,k5,c5,kn5.congr fun s=>?_,by omega⟩;rw[uq,hk,uw];simp only[ub,ua];exact⟨fun z=>z.elim (fun⟨k',a,b⟩=>⟨k',.inl a,b⟩) fun z=>⟨k,.inr rfl,z⟩,fun⟨k',a,b⟩=>a.elim (fun a=>.inl ⟨k',a,b⟩) fun a=>.inr (a▸b)⟩
 ·rintro σ H3 ⟨o3,o4,o,T,rfl,s3,k3,c3,kn,lT⟩;rw[tX,uG]at kn;rw[tX]at lT;have knG:Kn T (fun s=>LO.at4 (LO.grd wd hh g) s.x s.y s.d=true):=kn.congr fun s=>by
   rw[<-LO.mO hw,eX];refine⟨fun hPz=>?_,fun⟨k,hk,hb,hm⟩=>⟨k,(gB g64).mpr hb,hm⟩⟩;obtain⟨k,hk,hm⟩:=hPz;have hb:=(gB g64).mp hk;exact⟨k,Nat.lt_of_not_le (fun z=>by rw[Nat.testBit_lt_two_pow (ud hg (vK (by decide) z))]at hb;exact Bool.noConfusion hb),hb,hm⟩
  clear kn;obtain⟨L,pl,nd,hL⟩:=knG.list;have lL:T.length=L.length:=uj pl;refine⟨_,rfl,d,o,T,rfl,c3.1,c3.2.1,c3.2.2.1,fun D hD=>?_⟩;refine sT (d:=d) (o:=o) (T:=T) (fun i acc H4=>aq H3 H4/\H4 D=some (.lst acc)/\Paired (cP K H4) acc ((L.take i).filter (LO.brd (LO.grd wd hh g)))) ⟨aq.upd hD,ae,.nil⟩ (fun i acc H4 _ ⟨e,_⟩=>e _ _ c3.1) ?_ ?_
  ·rintro i t acc H4 hi ⟨s4,h4,pr⟩;refine j0 ?_;intro kq3 kr3;obtain⟨sd,hsd,et⟩:=a9 pl hi;have hs3:LT.cR K H3 t.2.1 sd:=by
    have:=c3.2.2.2 t (uC hi);rw[et]at this;exact qh this
   obtain⟨p,r,h1,h2,h3⟩:=aY s4.tk hs3;refine⟨_,rfl,t.2.1,_,_,_,rfl,rfl,h1,ak (j:=1) rfl,_,rfl,t.2.1,_,_,_,rfl,rfl,h1,ak (j:=0) rfl,az rfl,fun b hb=>?_⟩;have u5:=aq.upd (o:=.tup [.ref r,.ref p]) hb;have r5:LT.cR K (upd H4 b (.tup [.ref r,.ref p])) b sd.rev:=⟨r,p,SqT.of ae,sq2 (u5.tup h3) (LO.e7 sd).1.symm (LO.e7 sd).2.1.symm,sq2 (u5.tup h2) (LO.e7 sd).2.2.1.symm (LO.e7 sd).2.2.2.symm⟩;have s5:=s4.trans u5;have h5:=u5 _ _ h4;have pr5:=Paired.imp (fun _ _ z=>cP.tk u5.tk z) pr;generalize (upd H4 b (.tup [.ref r,.ref p]))=H5 at u5 r5 s5 h5 pr5 ⊢;refine⟨_,rfl,d,o,T,b,_,rfl,bO s5 c3,rfl,bH r5,_,rfl,?_⟩;have el:(L.take (i+1)).filter (LO.brd (LO.grd wd hh g))=(L.take i).filter (LO.brd (LO.grd wd hh g))++[sd].filter (LO.brd (LO.grd wd hh g)):=by rw[uq,hsd,uw,List.filter_append]
   have hat:LO.at4 (LO.grd wd hh g) sd.x sd.y sd.d=true:=(hL sd).mp (uC hsd);have eb:LO.brd (LO.grd wd hh g) sd= !(L2.atT T (aN sd.rev)).isSome:=by rw[LO.qi,hat,Bool.true_and];congr 1;exact uT.mpr (knG.at sd.rev).symm
   refine bx (fun z=>?_) (fun z=>?_)
   ·replace z:(!(L2.atT T (aN sd.rev)).isSome)=true:=z;rw[<-eb]at z;have lacc:acc.length<sizeLine:=by
     rw[uj pr];have:=(List.filter_sublist (p:=LO.brd (LO.grd wd hh g)) (l:=L.take i)).length_le;rw[uf]at this;exact a8 (by omega)
    have tk2:=TK.lst (o:=.lst (acc++[.ref t.2.1])) h5;refine⟨_,rfl,h5,lacc,fun b5 o5 e5=>?_,ae,?_⟩
    ·rw[ax (fun z=>by rw[z,hD]at e5;cases e5)];exact s5 _ _ e5
    ·rw[el,List.filter_cons_of_pos z,List.filter_nil];exact Paired.app (Paired.imp (fun _ _ z=>cP.tk tk2 z) pr5) (.cons ⟨_,rfl,aY tk2 (aY s5.tk hs3)⟩ .nil)
   ·replace z:¬(!(L2.atT T (aN sd.rev)).isSome)=true:=z;rw[<-eb]at z;refine⟨s5,h5,?_⟩;rw[el,List.filter_cons_of_neg z,List.filter_nil,uN];exact pr5
  ·rintro acc H4 ⟨s4,h4,pr⟩;rw[lL,uG]at pr;obtain⟨zs,rfl,e2,hz⟩:=lD pr;have lz:zs.length<=256:=by
    have:=(List.filter_sublist (p:=LO.brd (LO.grd wd hh g)) (l:=L)).length_le;rw[<-e2,tX]at this;omega
   have iz:∀z∈zs,LO.brd (LO.grd wd hh g) z.2=true:=fun z hz=>by have:z.2∈zs.map (·.2):=List.mem_map_of_mem hz;rw[e2]at this;exact(List.mem_filter.mp this).2
   refine⟨D,zs,rfl,SqL.of h4,hz,fun z hz'=>LO.kS hw8 hh8 (LO.cg.mp (iz z hz')).1,by omega,fun l ys hl pm so=>?_⟩;have u5:=aq.upd (o:=.lst (ys.map fun z=>V.ref z.1)) hl;have pm2:(ys.map (·.2)).Perm (L.filter (LO.brd (LO.grd wd hh g))):=e2▸pm.map _;refine q l _ (ys.map (·.2)) _ (s3.trans (s4.trans u5)) ae (kY fun z hz'=>aY u5.tk (hz z (pm.mem_iff.mp hz'))) (pm2.nodup_iff.mpr (nd.filter _)) (fun t=>?_) ?_ ?_
   ·rw[pm2.mem_iff,List.mem_filter,hL];exact⟨fun z=>z.2,fun z=>⟨(LO.cg.mp z).1,z⟩⟩
   ·rw[List.pairwise_map]at so ⊢;exact so
   ·rw[tX,pm.length_eq];exact lz
def eC(K:Frag)(P:Program)(w:World):Sp:=fun vs H Q _=>∃(d b:Addr)(o:Obj)(T:CT)(s:LO.Sd)(G:LO.Gr),vs=[.ref d,.ref b]/\b6 P w K H d o T/\(∀t,(L2.atT T (aN t)).isSome=LO.brd G t)/\LT.cR K H b s/\LO.brd G s=true/\(∀U:List LO.Sd,U.Nodup->(∀t∈U,LO.brd G t=true)->U.length<=256)/\∀l vs n H',H l=none->aq H H'->H' l=some (.lst vs)->Paired (cP K H') vs (LO.wlk G s n)->0<n->LO.itr G s n=s->(LO.wlk G s n).Nodup->Q (.ref l) H'
variable(cF:Df P w K mg base 3 "round_from" ["known","first"] (eC K P w))
theorem b8:aD ["known","first","found","side"] ["known","first"] (av (top 11)):=by trivial
include B bG in
theorem gT(T:Tx K mg "round_from" (top 11) ["known","first"]):Df P w K mg base 3 "round_from" ["known","first"] (eC K P w):=by
 refine T.df b8 (by rintro _ _ _ _ ⟨d,b,o,T,s,G,rfl,hA,hm,hs,hb,fin,q⟩;rfl) ?_;rintro f _ A _ s H _ Q E hr ⟨d,b,o,T,s,G,rfl,hA,hm,hs,hb,fin,q⟩;have hu:=hr.units;refine aW ?_;intro kX;refine ah 3 (aj (aF (pv 2))) ?_;intro kR3 pR3;refine aC 2 1 (aj (ao (i:=3) b8.nd rfl (by trivial) (aH bG hr (aa (pv 0) (aa (pv 3) ag))))) ?_;intro kS2x1 pS2x1;refine aC 2 0 (af (e9 (jN PySem.F.plainAttrs_list vQ vP cJ (pv 2) (aa (pv 3) ag))) pS2x1) ?_;intro kS2x0 pS2x0;refine ah 2 (af (nF uL (aP (iR hu) (pv 3) (pv 1) (aJ _)) pS2x0) pR3) ?_;intro kR2 pR2;refine ah 1 (af (ao (i:=3) b8.nd rfl (by trivial) (aH bG hr (aa (pv 0) (aa (pv 1) ag)))) pR2) ?_;intro kR1 pR1;refine⟨_,(af (ao (i:=2) b8.nd rfl (by trivial) (bz (aa (pv 1) ag))) pR1),?_⟩;refine⟨_,rfl,az rfl,fun l hl=>?_⟩;have u1:=aq.upd (o:=.lst [.ref b]) hl;have k1:(upd H l (.lst [.ref b])) l=some (.lst [.ref b]):=ae;generalize (upd H l (.lst [.ref b]))=H1 at u1 k1 ⊢;have AT:∀{H'},aq H H'->b6 P w K H' d o T:=fun z=>⟨z _ _ hA.1,hA.2.1,hA.2.2.1,fun t ht=>(hA.2.2.2 t ht).tk z.tk⟩;refine⟨_,rfl,_,rfl,d,b,o,T,s,G,rfl,AT u1,hm,aY u1.tk hs,hb,fun c H2 s2 hc=>?_⟩;have len:∀n,(LO.wlk G s n).Nodup->n<=256:=fun n nd=>by
  have:=fin _ nd fun t ht=>by obtain⟨j,_,rfl⟩:=uu.mp ht;exact LO.cc hb j
  rwa[LO.wlk,tX,ve]at this
 refine⟨fun m σ H3=>∃n c vs,m+n=300/\0<n/\σ=[some (.ref d),some (.ref b),some (.ref l),some (.ref c)]/\aq H H3/\LT.cR K H3 c (LO.itr G s n)/\H3 l=some (.lst vs)/\Paired (cP K H3) vs (LO.wlk G s n)/\(LO.wlk G s n).Nodup,⟨299,1,c,_,rfl,by decide,rfl,u1.trans s2,hc,s2 _ _ k1,.cons ⟨b,rfl,aY (u1.trans s2).tk hs⟩ .nil,vu _ _⟩,?_⟩;rintro m σ H3 ⟨n,c3,vs,hm3,n0,rfl,s3,hc3,hl3,pr,nd⟩;have hs3:=aY s3.tk hs;refine⟨_,rfl,_,rfl,_,_,(bH hc3).isD,(bH hs3).isD,rfl,rfl,Nat.le_of_ble_eq_true rfl,_,rfl,?_⟩;rw[l7];have n256:=len n nd;refine bx (fun z=>?_) (fun z=>?_)
 ·have ne:LO.itr G s n≠s:=fun y=>by
   replace z:(!decide (aN (LO.itr G s n)=aN s))=true:=z;rw[y]at z;simp at z
  have nd2:(LO.wlk G s (n+1)).Nodup:=by rw[LO.fW];refine List.nodup_append.mpr ⟨nd,vu _ _,fun x hx y hy z=>?_⟩;rw[ua.mp hy]at z;exact LO.oQ hb nd ne (z▸hx)
  have n256':=len _ nd2;refine⟨fun σ' H'=>∃m',m'<m/\(∃n c vs,m'+n=300/\0<n/\σ'=[some (.ref d),some (.ref b),some (.ref l),some (.ref c)]/\aq H H'/\LT.cR K H' c (LO.itr G s n)/\H' l=some (.lst vs)/\Paired (cP K H') vs (LO.wlk G s n)/\(LO.wlk G s n).Nodup),fun _ _ z=>z,?_⟩;have lv:vs.length<sizeLine:=by rw[uj pr,LO.wlk,tX,ve];exact a8 (by omega)
  refine⟨_,rfl,.inl ⟨rfl,_,SqL.of hl3⟩,_,rfl,l,_,_,rfl,rfl,hl3,lv,?_⟩;have tk4:=TK.lst (o:=.lst (vs++[.ref c3])) hl3;have s4:aq H (upd H3 l (.lst (vs++[.ref c3]))):=fun b5 o5 e5=>by rw[ax (fun z=>by rw[z,hl]at e5;cases e5)];exact s3 _ _ e5
  refine⟨_,rfl,_,rfl,d,c3,o,T,_,G,rfl,AT s4,hm,aY tk4 hc3,LO.cc hb n,fun c5 H5 s5 hc5=>?_⟩;refine⟨m-1,by omega,n+1,c5,_,by omega,by omega,rfl,s4.trans s5,hc5,s5 _ _ ae,?_,nd2⟩;rw[LO.fW];exact Paired.app (Paired.imp (fun _ _ z=>(z.tk tk4).tk s5.tk) pr) (.cons ⟨c3,rfl,aY s5.tk (aY tk4 hc3)⟩ .nil)
 ·have e:LO.itr G s n=s:=by
   replace z:¬(!decide (aN (LO.itr G s n)=aN s))=true:=z;simp at z;exact dZ z
  exact⟨_,rfl,q l vs n H3 hl s3 hl3 pr n0 e nd⟩
def dH(K:Frag):Sp:=fun vs H Q _=>∃(a b:Addr)(wd hh:Nat)(u:LO.Pt),vs=[.ref a,.ref b]/\SqT K H a [.int (wd:Nat),.int (hh:Nat)]/\SqT K H b [.int u.1,.int u.2]/\(0<wd/\wd<=8)/\(0<hh/\hh<=8)/\∀H',aq H H'->Q (.int (LO.cb wd hh u:Nat)) H'
variable(bX:Df P w K mg base 3 "cells_behind" ["floor","upright"] (dH K))
theorem bI:aD ["floor","upright","found","cell"] ["floor","upright"] (av (top 16)):=by trivial
include B cO fT cN bA in
theorem fN(T:Tx K mg "cells_behind" (top 16) ["floor","upright"]):Df P w K mg base 3 "cells_behind" ["floor","upright"] (dH K):=by
 refine T.df bI (by rintro _ _ _ _ ⟨a,b,wd,hh,u,rfl,hT,hu2,⟨hw,hw8⟩,⟨hh0,hh8⟩,q⟩;rfl) ?_;rintro f _ A _ s H _ Q E hr ⟨a,b,wd,hh,u,rfl,hT,hu2,⟨hw,hw8⟩,⟨hh0,hh8⟩,q⟩;refine aW ?_;intro kX;refine ah 2 (aj (aF (pv 2))) ?_;intro kR2 pR2;refine ah 1 (af (bM uL rfl (bV (aH cO hr (aa (aH fT hr (aa (pv 0) ag)) ag))) (aK (i:=3) bI.nd rfl (by trivial)) (aj (bD ((qO (aP bS (aH cN hr (aa (pv 0) (aa (pv 3) ag))) (ay au (pv 1) ab (fun _ _=>rfl)) (aJ _)) (ph (aP qy (aH bA hr (aa (pv 0) (aa (pv 3) ag))) (ay au (pv 1) ab (fun _ _=>rfl)) (aJ _)))).pt) (aj (ao (i:=2) bI.nd rfl (by trivial) (ai qw (pv 2) (ai dz ab (pv 3))))) aS))) pR2) ?_;intro kR1 pR1;refine⟨_,(af (ao (i:=2) bI.nd rfl (by trivial) ab) pR1),?_⟩;have hwh:wd*hh<=64:=Nat.mul_le_mul hw8 hh8;have e64:2^(wd*hh)-1<2^64:=ud (Nat.sub_lt (Nat.two_pow_pos _) (by decide)) (vK (by decide) hwh);have eL:bF (2^(wd*hh)-1)=List.range (wd*hh):=by rw[m4 (Nat.sub_lt (Nat.two_pow_pos _) (by decide)) hwh];refine List.filter_eq_self.mpr fun k hk=>?_;rw[Nat.testBit_two_pow_sub_one];exact tS (uU.mp hk)
 refine⟨_,rfl,a,wd,hh,rfl,hT,⟨hw8,hh8⟩,_,rfl,e64,fun lc hlc=>?_⟩;rw[eL];obtain⟨pr,epr⟩:∃pr:Nat->Bool,pr=fun k=>decide (((k / wd:Nat):Int)=u.2)&&decide (u.1<=((k % wd:Nat):Int)):=⟨_,rfl⟩;have u1:=aq.upd (o:=.lst ((List.range (wd*hh)).map fun k:Nat=>V.int (k:Int))) hlc;have k1:(upd H lc (.lst ((List.range (wd*hh)).map fun k:Nat=>V.int (k:Int)))) lc=some (.lst ((List.range (wd*hh)).map fun k:Nat=>V.int (k:Int))):=ae;generalize (upd H lc (.lst ((List.range (wd*hh)).map fun k:Nat=>V.int (k:Int))))=H1 at u1 k1 ⊢;refine⟨lc,rfl,⟨_,SqL.of k1⟩,bW (K:=K) (a:=lc) (xs:=(List.range (wd*hh)).map fun k:Nat=>V.int (k:Int)) (fun i σ H2=>∃(o3:Option V),σ=[some (.ref a),some (.ref b),some (.int (bZ 0 ((List.range i).filter pr):Nat)),o3]/\H2=H1) ⟨none,rfl,rfl⟩ (fun i σ H2 _ hPz=>hPz.elim fun _ hPz=>(fun e=>by rw[e];exact SqL.of k1) (hPz.2)) ?_ ?_⟩
 ·rintro i v σ H2 hi ⟨o3,rfl,rfl⟩;refine dj ?_;intro kD1;rw[uV]at hi;obtain⟨k,hk,rfl⟩:=Option.map_eq_some_iff.mp hi;have ki:k=i/\i<wd*hh:=by
   obtain⟨h1,h2⟩:=t8.mp hk;rw[List.getElem_range]at h2;rw[ve]at h1;exact⟨h2.symm,h1⟩
  obtain⟨rfl,hlt⟩:=ki;have hf:(List.range (k+1)).filter pr=(List.range k).filter pr++[k].filter pr:=by rw[vB,List.filter_append]
  refine⟨_,rfl,_,rfl,a,wd,hh,_,rfl,u1.tup hT,by omega,?_⟩;refine⟨_,rfl,b,_,_,_,rfl,rfl,u1.tup hu2,ak (j:=1) rfl,rfl,_,rfl,?_⟩;have go:∀z:Bool,pr k=z->(List.range (k+1)).filter pr=(List.range k).filter pr++(if z=true then[k]else[]):=fun z e=>by
   rw[hf];cases z with
   |true=>rw[List.filter_cons_of_pos e,List.filter_nil];rfl
   |false=>rw[List.filter_cons_of_neg (by rw[e];exact tZ),List.filter_nil];rfl
  refine bx (fun z=>?_) (fun z=>?_)
  ·have z1:((k / wd:Nat):Int)=u.2:=veq.mp z;refine⟨_,rfl,_,rfl,a,wd,hh,_,rfl,u1.tup hT,⟨by omega,by omega⟩,?_⟩;refine⟨_,rfl,b,_,_,_,rfl,rfl,u1.tup hu2,ak (j:=0) rfl,_,_,rfl,rfl,_,rfl,?_⟩;refine bx (fun z=>?_) (fun z=>?_)
   ·have z2:u.1<=((k % wd:Nat):Int):=vd z;have ep:pr k=true:=(by rw[epr];show(decide _&&decide _)=true;rw[tS z1,tS z2];rfl);refine⟨_,rfl,_,rfl,_,_,rfl,rfl,⟨by omega,by omega,by decide⟩,_,_,rfl,rfl,?_⟩;refine⟨some (.int k),?_,rfl⟩;rw[go _ ep];simp only[or_eq];simp[bZ,List.foldl_append]
   ·have z2:¬u.1<=((k % wd:Nat):Int):=of_decide_eq_false (by simpa using z);have ep:pr k=false:=(by rw[epr];show(decide _&&decide _)=false;rw[tQ z2,vh]);exact⟨some (.int k),by rw[go _ ep];simp,rfl⟩
  ·have z1:¬((k / wd:Nat):Int)=u.2:=fun y=>z (veq.mpr y);have ep:pr k=false:=(by rw[epr];show(decide _&&decide _)=false;rw[tQ z1,vI]);exact⟨some (.int k),by rw[go _ ep];simp,rfl⟩
 ·rintro σ H2 ⟨o3,rfl,rfl⟩;rw[tX,ve];refine⟨_,rfl,?_⟩;have:=q _ u1;rw[LO.cb,<-epr]at this;exact this
def jz(K:Frag)(P:Program)(w:World):Sp:=fun vs H Q _=>∃(a:Addr)(wd hh g:Nat),vs=[.ref a,.int (g:Nat)]/\SqT K H a [.int (wd:Nat),.int (hh:Nat)]/\(0<wd/\wd<=8)/\(0<hh/\hh<=8)/\g<2^(wd*hh)/\∀l vs Ws H',aq H H'->H' l=some (.lst vs)->Paired (oF K H') vs (Ws.map LO.bL)->LO.Rs (LO.grd wd hh g) Ws->(Ws.map fun W=>LT.ptN (LO.i8 W)).Pairwise (·<=·)->Ws.flatten.length<=256->Ws.length<=256->Q (.ref l) H'
variable(fS:Df P w K mg base 4 "rings" ["floor","cells"] (jz K P w))
theorem cn:aD ["floor","cells","some","known","walked","found","first","walk","side"] ["floor","cells"] (av (top 13)):=by trivial
include B fR cF cH in
theorem nQ(T:Tx K mg "rings" (top 13) ["floor","cells"]):Df P w K mg base 4 "rings" ["floor","cells"] (jz K P w):=by
 refine T.df cn (by rintro _ _ _ _ ⟨a,wd,hh,g,rfl,hT,⟨hw,hw8⟩,⟨hh0,hh8⟩,hg,q⟩;rfl) ?_;rintro f _ A _ s H _ Q E hr ⟨a,wd,hh,g,rfl,hT,⟨hw,hw8⟩,⟨hh0,hh8⟩,hg,q⟩;have hu:=hr.units;refine aW ?_;intro kX;refine ah 5 (aj (aF (cL (LT.kQ hu) (by rfl) B.sorted (by trivial) (aa (pv 5) ag)))) ?_;intro kR5 pR5;refine ah 4 (af (bM uL rfl (bV (pv 2)) (aK (i:=6) cn.nd rfl (by trivial)) (aj (bD (iN (ia hu (pv 6) (pv 4))) (af (ao (i:=7) cn.nd rfl (by trivial) (aH cF hr (aa (pv 3) (aa (pv 6) ag)))) (af (e9 (jN PySem.F.plainAttrs_list vQ vP cJ (pv 5) (aa (aH cH hr (aa (pv 7) ag)) ag))) (aj (bM uL rfl (bV (pv 7)) (aK (i:=8) cn.nd rfl (by trivial)) (aj (lH hu (pv 4) (pv 8) h8 rfl)))))) aS))) pR5) ?_;intro kR4 pR4;refine ah 3 (af (ao (i:=5) cn.nd rfl (by trivial) (bz ag)) pR4) ?_;intro kR3 pR3;refine ah 2 (af (ao (i:=4) cn.nd rfl (by trivial) jL) pR3) ?_;intro kR2 pR2;refine ah 1 (af (ao (i:=3) cn.nd rfl (by trivial) (de (kR rfl hu) (by rfl) B.dict boot_dict (aa (dU ["side"] [] (gK _ []) rfl (by rfl) rfl (by trivial) (by trivial) (bP (by rfl)) (fz (by rfl)) mN mN (eS (by decide)) (bV (pv 2)) (fun _ _ _ _=>aK (i:=0) (show(["side"]:List Str).Nodup by trivial) rfl (Or.inl rfl) (Or.inr rfl)) (fun _ _ _ _=>gq) (fun _ _ _ _=>(aG (aa (pv 0) (aa h8 ag))))) ag))) pR2) ?_;intro kR1 pR1;refine⟨_,(af (ao (i:=2) cn.nd rfl (by trivial) (aH fR hr (aa (pv 0) (aa (pv 1) ag)))) pR1),?_⟩;refine⟨_,rfl,_,rfl,a,wd,hh,g,rfl,hT,⟨hw,hw8⟩,⟨hh0,hh8⟩,hg,fun ls vs U H1 s1 hls pU ndU memU soU lU=>?_⟩;obtain⟨zs,rfl,ezU,hz⟩:=lD pU;have lz:zs.length=U.length:=by rw[<-ezU,tX]
 refine⟨_,rfl,ls,rfl,⟨_,SqL.of hls⟩,fun D hD=>?_⟩;obtain⟨kvs,ek⟩:∃kvs:CT,kvs=zs.map fun z=>(aN z.2,z.1,V.bl true):=⟨_,rfl⟩;have lk:kvs.length=U.length:=by rw[ek,tX,lz]
 refine qD (K:=K) (a:=ls) (xs:=zs.map fun z=>V.ref z.1) (fun i acc H2=>aq H1 H2/\H2 D=some (.lst acc)/\Paired (fun v (kv:Col×Addr×V)=>∃r,v=.ref r/\SqT K H2 r [.ref kv.2.1,kv.2.2]/\dO K H2 kv.2.1 kv.1) acc (kvs.take i)) ⟨aq.upd hD,ae,.nil⟩ (fun i acc H2 _ z=>SqL.of (z.1 _ _ hls)) ?_ ?_
 ·rintro i v acc H2 hi ⟨s2,h2,pr⟩;refine j0 ?_;intro kq1 kr1;rw[uV]at hi;obtain⟨z,hzi,rfl⟩:=Option.map_eq_some_iff.mp hi;have hki:kvs[i]?=some (aN z.2,z.1,V.bl true):=by rw[ek,uV,hzi];rfl
  have cz:=bH (aY s2.tk (hz z (uC hzi)));refine⟨_,rfl,az rfl,fun r hr=>?_⟩;have u3:=aq.upd (o:=.tup [.ref z.1,.bl true]) hr;have lacc:acc.length<sizeLine:=by rw[uj pr,uf];exact a8 (by omega)
  have tk2:=TK.lst (o:=.lst (acc++[.ref r])) (u3 _ _ h2);refine⟨u3 _ _ h2,lacc,fun b5 o5 e5=>?_,ae,?_⟩
  ·rw[ax (fun z=>by rw[z,hD]at e5;cases e5)];exact u3 _ _ (s2 _ _ e5)
  ·rw[uq,hki,uw];exact Paired.app (Paired.imp (fun _ _ ⟨r,e,h1,h2⟩=>⟨r,e,tk2.sq (u3.tup h1),(h2.tk u3.tk).tk tk2⟩) pr) (.cons ⟨r,rfl,tk2.sq (SqT.of ae),(cz.tk u3.tk).tk tk2⟩ .nil)
 rintro acc H2 ⟨s2,h2,pr⟩;rw[tX,lz,<-lk,uG]at pr;refine⟨D,acc,kvs,rfl,h2,by omega,pr,fun dk ok hdk ho nmk=>?_⟩;have u3:=aq.upd (o:=bY dk ok) hdk
 have ck:b6 P w K (upd H2 dk (bY dk ok)) dk ok (mkT kvs):=⟨ae,ho,nmk,fun t ht=>by
  obtain⟨x,hx,e1,e2⟩:=pM t ht;rw[ek]at hx;obtain⟨z,hz',rfl⟩:=uu.mp hx;rw[e1,e2]
  exact(bH (aY s2.tk (hz z hz'))).tk u3.tk⟩
 have knk:Kn (mkT kvs) (fun s=>s∈U):=sI (by rw[ek,uX,<-ezU,uX];rfl);obtain⟨G,eG⟩:∃G,G=LO.grd wd hh g:=⟨_,rfl⟩;rw[<-eG]at memU;have hmk:∀t,(L2.atT (mkT kvs) (aN t)).isSome=LO.brd G t:=fun t=>uT.mpr ((knk.at t).trans (memU t));have sa:=s1.trans (s2.trans u3);have hlsa:=u3 _ _ (s2 _ _ hls);have hza:∀z∈zs,LT.cR K (upd H2 dk (bY dk ok)) z.1 z.2:=fun z h=>aY (s2.trans u3).tk (hz z h);generalize (upd H2 dk (bY dk ok))=H3 at ck sa hlsa hza ⊢;clear pr h2 s2 u3 hz;refine fun dw hdw nmw=>?_;have u4:=aq.upd (o:=bY dw cM) hdw;have cw:b6 P w K (upd H3 dw (bY dw cM)) dw cM []:=⟨ae,gJ P w,nmw,fun t ht=>nomatch ht⟩;generalize (upd H3 dw (bY dw cM))=H4 at u4 cw ⊢;refine⟨az rfl,fun lf hlf=>?_⟩;have u5:=aq.upd (o:=.lst []) hlf;have cw5:=bO u5 cw;have k5:(upd H4 lf (.lst [])) lf=some (.lst []):=ae;have s35:=u4.trans u5;generalize (upd H4 lf (.lst []))=H5 at u5 cw5 k5 s35 ⊢;have H3f:H3 lf=none:=by
  cases z:H3 lf with
  |none=>rfl
  |some o=>rw[u4 _ _ z]at hlf;cases hlf
 have okU:∀t∈U,LT.gO t:=fun t ht=>LO.kS hw8 hh8 (LO.cg.mp (eG▸(memU t).mp ht)).1;have fin:∀V:List LO.Sd,V.Nodup->(∀t∈V,LO.brd G t=true)->V.length<=256:=fun V nd hb=>vk (LM.length_le_of_subset nd fun t ht=>(memU t).mpr (hb t ht)) lU;have hms:∀(i:Nat)(v:V),(zs.map fun z=>V.ref z.1)[i]?=some v->∃b sd,v=.ref b/\U[i]?=some sd/\LT.cR K H3 b sd:=fun i v hi=>by rw[uV]at hi;obtain⟨z,hzi,rfl⟩:=Option.map_eq_some_iff.mp hi;exact⟨z.1,z.2,rfl,by rw[<-ezU,uV,hzi];rfl,hza z (uC hzi)⟩
 refine⟨_,rfl,ls,rfl,⟨_,SqL.of (s35 _ _ hlsa)⟩,bW (K:=K) (a:=ls) (xs:=zs.map fun z=>V.ref z.1) (fun i σ H6=>∃(o6 o7 o8:Option V)(ow:Obj)(T:CT)(vf:List V)(Ws:List (List LO.Sd)),σ=[some (.ref a),some (.int (g:Nat)),some (.ref ls),some (.ref dk),some (.ref dw),some (.ref lf),o6,o7,o8]/\aq H3 H6/\b6 P w K H6 dw ow T/\Kn T (fun s=>s∈Ws.flatten)/\H6 lf=some (.lst vf)/\Paired (FoE lf K H6) vf Ws/\LO.Rg G U i Ws) ⟨none,none,none,_,_,[],[],rfl,s35,cw5,kK.congr fun s=>by simp,k5,.nil,LO.qM⟩ (fun i σ H6 _ hPz=>hPz.elim fun _ hPz=>hPz.elim fun _ hPz=>hPz.elim fun _ hPz=>hPz.elim fun _ hPz=>hPz.elim fun _ hPz=>hPz.elim fun _ hPz=>hPz.elim fun _ hPz=>(fun z=>SqL.of (z _ _ hlsa)) (hPz.2.1)) ?_ ?_⟩
 ·rintro i v σ H6 hi ⟨o6,o7,o8,ow,T,vf,Ws,rfl,s6,c6,kn6,k6,pf6,rg⟩;refine dj ?_;intro kD2;obtain⟨b,sd,rfl,hUi,hb⟩:=hms i v hi;have hb6:=aY s6.tk hb;refine⟨_,rfl,_,rfl,dw,ow,T,b,_,rfl,c6,rfl,bH hb6,_,rfl,?_⟩;refine bx (fun z=>?_) (fun z=>?_)
  ·replace z:(!(L2.atT T (aN sd)).isSome)=true:=z;have hnot:sd∉Ws.flatten:=fun y=>by
    rw[(kn6.at sd).mpr y]at z;cases z
   have bsd:LO.brd G sd=true:=(memU sd).mp (uC hUi);refine⟨_,rfl,_,rfl,dk,b,ok,mkT kvs,sd,G,rfl,bO s6 ck,hmk,hb6,bsd,fin,fun lw vw n H7 nw s7 hlw pW n0 en ndW=>?_⟩;obtain⟨lwk,rg2⟩:=rg.add memU okU soU hUi hnot n0 en ndW;have lW:(LO.wlk G sd n).length<=256:=fin _ ndW fun t ht=>lwk.is.brd t ht;generalize LO.wlk G sd n=W at pW ndW lwk rg2 lW;refine⟨_,rfl,.inl ⟨rfl,_,SqL.of (s7 _ _ k6)⟩,_,rfl,lw,vw,W,rfl,hlw,pW,lW,fun lr xr H8 nr s8 hlr pR=>?_⟩;have k8:=s8 _ _ (s7 _ _ k6);have nlr:lr≠lf:=fun z=>by rw[z,s7 _ _ k6]at nr;cases nr
   have nlw:lw≠lf:=fun z=>by rw[z,k6]at nw;cases nw
   have lvf:vf.length<sizeLine:=by rw[uj pf6];have:=rg2.len;have:=(t8.mp hUi).1;rw[uA]at*;exact a8 (by simp at*;omega)
   refine⟨lf,_,_,rfl,rfl,k8,lvf,?_⟩;have tk9:=TK.lst (o:=.lst (vf++[.ref lr])) k8;have s9:aq H3 (upd H8 lf (.lst (vf++[.ref lr]))):=fun b5 o5 e5=>by rw[ax (fun z=>by rw[z,H3f]at e5;cases e5)];exact s8 _ _ (s7 _ _ (s6 _ _ e5))
   have lw9:(upd H8 lf (.lst (vf++[.ref lr]))) lw=some (.lst vw):=(by rw[ax nlw];exact s8 _ _ hlw);have pW9:Paired (cP K (upd H8 lf (.lst (vf++[.ref lr])))) vw W:=Paired.imp (fun _ _ z=>cP.tk tk9 (cP.tk s8.tk z)) pW;have c8:=bO s8 (bO s7 c6);have c9:b6 P w K (upd H8 lf (.lst (vf++[.ref lr]))) dw ow T:=⟨by rw[ax (fun z=>by have:=c8.1;rw[z,k8]at this;cases this)];exact c8.1,c8.2.1,c8.2.2.1,fun t ht=>(c8.2.2.2 t ht).tk tk9⟩;have k9:(upd H8 lf (.lst (vf++[.ref lr]))) lf=some (.lst (vf++[.ref lr])):=ae;have pf9:Paired (FoE lf K (upd H8 lf (.lst (vf++[.ref lr])))) (vf++[.ref lr]) (Ws++[W]):=Paired.app (Paired.imp (fun _ _ z=>((z.same s7).same s8).put k8) pf6) (.cons (FoE.put k8 ⟨lr,rfl,nlr,xr,hlr,pR⟩) .nil);generalize (upd H8 lf (.lst (vf++[.ref lr])))=H9 at s9 lw9 pW9 c9 k9 pf9 ⊢;have inU:∀s,s∈Ws.flatten\/s∈W->s∈U:=fun s hs=>(memU s).mpr (rg2.brd s (by rw[List.flatten_append,List.flatten_singleton,ub];exact hs));refine⟨_,rfl,lw,rfl,⟨_,SqL.of lw9⟩,bW (K:=K) (a:=lw) (xs:=vw) (fun j σ H7=>∃(o8:Option V)(ow:Obj)(T:CT),σ=[some (.ref a),some (.int (g:Nat)),some (.ref ls),some (.ref dk),some (.ref dw),some (.ref lf),some (.ref b),some (.ref lw),o8]/\aq H3 H7/\H7 lw=some (.lst vw)/\Paired (cP K H7) vw W/\b6 P w K H7 dw ow T/\Kn T (fun s=>s∈Ws.flatten\/s∈W.take j)/\H7 lf=some (.lst (vf++[.ref lr]))/\Paired (FoE lf K H7) (vf++[.ref lr]) (Ws++[W])) ⟨o8,ow,T,rfl,s9,lw9,pW9,c9,kn6.congr fun s=>by simp,k9,pf9⟩ (fun j σ H7 _ hPz=>hPz.elim fun _ hPz=>hPz.elim fun _ hPz=>hPz.elim fun _ hPz=>(fun z=>SqL.of z) (hPz.2.2.1)) ?_ ?_⟩
   ·rintro j v σ Hj hj ⟨o8',ow',T',rfl,sj,lwj,pWj,cj,knj,kj,pfj⟩;refine dj ?_;intro kD3;obtain⟨td,htd,bt,rfl,hbt⟩:=a9 pWj hj;have lT:T'.length<1000:=by
     have:=knj.len (U:=U) fun s hs=>inU s (hs.imp id fun z=>uI z);omega
    refine⟨_,rfl,_,rfl,dw,ow',T',bt,_,rfl,cj,rfl,bH hbt,lT,fun o' ho'=>?_⟩;have tk:=TK.obj (o:=bY dw o') cj.1;refine⟨_,o',_,rfl,fun b5 o5 e5=>?_,?_,Paired.imp (fun _ _ z=>cP.tk tk z) pWj,iw cj (bH hbt) ho',(kJ knj td bt _).congr fun s=>?_,?_,Paired.imp (fun _ _ z=>FoE.obj cj.1 z) pfj⟩
    ·rw[ax (fun z=>by rw[z,hdw]at e5;cases e5)];exact sj _ _ e5
    ·rw[ax (fun z=>by rw[z,cj.1]at lwj;cases lwj)];exact lwj
    ·rw[uq,htd,uw,ub,ua,or_assoc]
    ·rw[ax (fun z=>by rw[z,cj.1]at kj;cases kj)];exact kj
   ·rintro σ Hj ⟨o8',ow',T',rfl,sj,lwj,pWj,cj,knj,kj,pfj⟩;rw[uj pWj,uG]at knj;exact⟨_,_,_,ow',T',_,_,rfl,sj,cj,knj.congr fun s=>by rw[List.flatten_append,List.flatten_singleton,ub],kj,pfj,rg2⟩
  ·replace z:¬(!(L2.atT T (aN sd)).isSome)=true:=z;have hin:sd∈Ws.flatten:=(kn6.at sd).mp (by cases y:(L2.atT T (aN sd)).isSome with|true=>rfl|false=>rw[y]at z;exact(z rfl).elim);exact⟨_,_,_,ow,T,vf,Ws,rfl,s6,c6,kn6,k6,pf6,rg.skip hUi hin⟩
 ·rintro σ H6 ⟨o6,o7,o8,ow,T,vf,Ws,rfl,s6,c6,kn6,k6,pf6,rg⟩;rw[tX,lz]at rg;have rs:=rg.rs memU;obtain⟨tz,rfl,e2,htz⟩:=rD pf6;have lF:Ws.flatten.length<=256:=fin _ rs.nd fun t ht=>(rs.all t).mp ht;have ltz:tz.length=Ws.length:=by rw[<-e2,tX]
  have mtz:∀z∈tz,z.2∈Ws:=fun z h=>e2▸List.mem_map_of_mem h;have l256:Ws.length<=256:=vk rg.len lU;refine⟨_,rfl,lf,tz.map fun z=>(z.1,LO.i8 z.2),rfl,?_,?_,?_,?_,?_,fun l ys hl pm so=>?_⟩
  ·rw[uX];exact SqL.of k6
  ·intro z hz;obtain⟨y,hy,rfl⟩:=uu.mp hz;obtain⟨s,n,l⟩:=rs.wk y.2 (mtz y hy);obtain⟨R,eR⟩:=l.head;obtain⟨xs,h1,h2⟩:=htz y hy;rw[eR]at h2;cases h2 with
   |cons hp _=>obtain⟨p,rfl,hp⟩:=hp;refine⟨p,_,h1,?_⟩;show SqT K H6 p [.int (LO.i8 y.2).1,.int (LO.i8 y.2).2];rw[l.fst];exact hp
  ·intro z hz;obtain⟨y,hy,rfl⟩:=uu.mp hz;obtain⟨s,n,l⟩:=rs.wk y.2 (mtz y hy);obtain⟨a1,a2,_⟩:=okU s ((memU s).mpr l.b);show LT.mE (LO.i8 y.2);rw[l.fst];exact⟨a1,a2⟩
  ·rw[uX];have:=LO.Rg.unlike rs.wk rs.nd;rw[<-e2,uX]at this;exact this
  ·rw[tX];omega
  ·obtain⟨k,pk,rfl⟩:=LO.ff pm rfl;rw[show(k.map fun z=>((z.1,LO.i8 z.2):Addr×(Int×Int))).map (fun z=>V.ref z.1)=k.map (fun z=>V.ref z.1)from uX];have u7:=aq.upd (o:=.lst (k.map fun z=>V.ref z.1)) hl;have pW:(k.map (·.2)).Perm Ws:=e2▸pk.map _;refine q l _ (k.map (·.2)) _ (sa.trans (s6.trans u7)) ae ?_ (eG▸rs.perm pW) ?_ ?_ ?_
   ·exact ng fun z hz=>(htz z (pk.mem_iff.mp hz)).same u7
   ·rw[uX]at so ⊢;exact so
   ·rw[pW.flatten.length_eq];exact lF
   ·rw[pW.length_eq];exact l256
def g9(K:Frag):Sp:=fun vs H Q _=>∃(a l:Addr)(wd hh:Nat)(xs:List V)(Rs:List (List LO.Pt)),vs=[.ref a,.ref l]/\SqT K H a [.int (wd:Nat),.int (hh:Nat)]/\(0<wd/\wd<=8)/\(0<hh/\hh<=8)/\H l=some (.lst xs)/\Paired (oF K H) xs Rs/\(∀R∈Rs,R.length<=256/\∀p∈R,-20<=p.1/\p.1<=20/\ -20<=p.2/\p.2<=20)/\∀H',aq H H'->Q (.int (LO.cq (Rs.map (LO.bK (·^^^·) 0 (LO.fX wd hh))):Nat)) H'
variable(dr:Df P w K mg base 4 "inside" ["floor","some"] (g9 K))
theorem cZ:aD ["floor","some","cells","ring","upright"] ["floor","some"] (av (top 17)):=by trivial
include B dD bX in
theorem mL(T:Tx K mg "inside" (top 17) ["floor","some"]):Df P w K mg base 4 "inside" ["floor","some"] (g9 K):=by
 refine T.df cZ (by rintro _ _ _ _ ⟨a,l,wd,hh,xs,Rs,rfl,hT,⟨hw,hw8⟩,⟨hh0,hh8⟩,hl,px,rb,q⟩;rfl) ?_;rintro f _ A _ s H _ Q E hr ⟨a,l,wd,hh,xs,Rs,rfl,hT,⟨hw,hw8⟩,⟨hh0,hh8⟩,hl,px,rb,q⟩;refine aW ?_;intro kX;refine ah 2 (aj (aF (pv 2))) ?_;intro kR2 pR2;refine ah 1 (af (bM uL rfl (bV (pv 1)) (aK (i:=3) cZ.nd rfl (by trivial)) (aj (bM uL rfl (bV (aH dD hr (aa (pv 3) ag))) (aK (i:=4) cZ.nd rfl (by trivial)) (aj (ao (i:=2) cZ.nd rfl (by trivial) (ai nJ (pv 2) (aH bX hr (aa (pv 0) (aa (pv 4) ag))))))))) pR2) ?_;intro kR1 pR1;refine⟨_,(af (ao (i:=2) cZ.nd rfl (by trivial) ab) pR1),?_⟩;refine⟨_,rfl,l,rfl,⟨_,SqL.of hl⟩,bW (K:=K) (a:=l) (xs:=xs) (fun i σ H2=>∃(o3 o4:Option V),σ=[some (.ref a),some (.ref l),some (.int (LO.cq ((Rs.take i).map (LO.bK (·^^^·) 0 (LO.fX wd hh))):Nat)),o3,o4]/\aq H H2) ⟨none,none,rfl,aq.refl _⟩ (fun i σ H2 _ hPz=>hPz.elim fun _ hPz=>hPz.elim fun _ hPz=>(fun z=>SqL.of (z _ _ hl)) (hPz.2)) ?_ ?_⟩
 ·rintro i v σ H2 hi ⟨o3,o4,rfl,s2⟩;refine dj ?_;intro kD1;obtain⟨R,hR,b,rfl,hb⟩:=a9 px hi;obtain⟨lR,pR⟩:=rb R (uC hR);have st:LO.cq ((Rs.take (i+1)).map (LO.bK (·^^^·) 0 (LO.fX wd hh)))=LO.cq ((Rs.take i).map (LO.bK (·^^^·) 0 (LO.fX wd hh)))^^^LO.cv wd hh (LO.iF R):=by
   rw[uq,hR,uw,uZ,LO.md];exact LO.gY _ _
  obtain⟨c,ec⟩:∃c,c=LO.cq ((Rs.take i).map (LO.bK (·^^^·) 0 (LO.fX wd hh))):=⟨_,rfl⟩;rw[<-ec]at st;refine⟨_,rfl,b,R,rfl,hb.same s2,lR,pR,fun lu us H3 s3 hlu pu=>?_⟩;replace s3:=s2.trans s3;refine⟨lu,rfl,⟨_,SqL.of hlu⟩,bW (K:=K) (a:=lu) (xs:=us) (fun j σ H4=>∃(o4:Option V),σ=[some (.ref a),some (.ref l),some (.int (c^^^LO.cv wd hh ((LO.iF R).take j):Nat)),some (.ref b),o4]/\aq H3 H4) ⟨o4,by rw[List.take_zero,show LO.cv wd hh []=0 from rfl,Nat.xor_zero,ec];rfl,aq.refl _⟩ (fun j σ H4 _ hPz=>hPz.elim fun _ hPz=>(fun z=>SqL.of (z _ _ hlu)) (hPz.2)) ?_ ?_⟩
  ·rintro j v σ H4 hj ⟨o4',rfl,s4⟩;refine dj ?_;intro kD2;obtain⟨u,hu',bu,rfl,hbu⟩:=a9 pu hj;have s34:=s3.trans s4;have st2:c^^^LO.cv wd hh ((LO.iF R).take (j+1))=(c^^^LO.cv wd hh ((LO.iF R).take j))^^^LO.cb wd hh u:=by
    rw[uq,hu',uw,LO.dP,LO.eN,Nat.xor_assoc]
   refine⟨_,rfl,_,rfl,_,rfl,a,bu,wd,hh,u,rfl,s34.tup hT,s4.tup hbu,⟨hw,hw8⟩,⟨hh0,hh8⟩,fun H5 s5=>?_⟩;refine⟨_,_,rfl,rfl,some (.ref bu),?_,s4.trans s5⟩;show[_,_,some (V.int (Builtin.bitXor ((c^^^LO.cv wd hh ((LO.iF R).take j):Nat):Int) ((LO.cb wd hh u:Nat):Int))),_,some (V.ref bu)]=_;rw[oI,st2]
  ·rintro σ H4 ⟨o4',rfl,s4⟩;refine⟨some (.ref b),o4',?_,s3.trans s4⟩;rw[uj pu,uG,st]
 ·rintro σ H2 ⟨o3,o4,rfl,s2⟩;rw[uj px,uG];exact⟨_,rfl,q _ s2⟩
def nk(K:Frag):Sp:=fun vs H Q _=>∃(a:Addr)(ns:List Int),vs=[.ref a]/\SqL K H a (ns.map V.int)/\ns.length<=63/\∀H',Q (.bl true) H'
theorem aZ:aD ["_law_script","_law_wide","_law_high","_law_ground_here","_law_boxes_here","_law_some","_law_k","_law_cell","_law_turned","_law_ring_here","_law_due","_law_box_here","_law_first","_law_beyond","_law_handed","_law_area","_law_found","_law_back"] ["_law_script"] (av (top 29)):=by trivial
include B cG dr aV bh cX cE fS bT ef dE in
theorem qX{f:Addr}{fd:FuncData}(F:Fun K "law" "law" (top 29) f fd):jn P w K mg base CX0 5 f fd ["_law_script"] (nk K):=by
 refine F.ok aZ (by rintro _ _ _ _ ⟨a,ns,rfl,hS,hlen,q⟩;rfl) ?_;rintro _ A _ s H _ Q E hr ⟨a,ns,rfl,hS,hlen,q⟩;have hu:=hr.units;refine aW ?_;intro kX;refine ah 11 (aj (aF (iP (aH bT hr (aa (pv 17) ag)) (fu (b9 bS (pv 17) (pv 3) (aJ _)))))) ?_;intro kR11 pR11;refine ah 10 (af (ao (i:=17) aZ.nd rfl (by trivial) (aH dr hr (aa (aG (aa (pv 1) (aa (pv 2) ag))) (aa (aH fS hr (aa (aG (aa (pv 1) (aa (pv 2) ag))) (aa (pv 3) ag))) ag)))) pR11) ?_;intro kR10 pR10;refine ah 9 (af (bD (aP lJ (aH dr hr (aa (aG (aa (pv 1) (aa (pv 2) ag))) (aa (bz ag) ag))) ab (aJ _)) (aj (aF h8)) aS) pR10) ?_;intro kR9 pR9;refine ah 8 (af (bD ((lG (nE (iM (aH bT hr (aa (pv 16) ag)))) (lG (aP lJ (pv 16) (aH ef hr (aa (pv 4) (aa (pv 1) (aa (pv 2) ag)))) (aJ _)) (nA (aP (iR hu) (pv 14) (pv 5) (aJ _))))).pt) (aj (aF h8)) aS) pR9) ?_;intro kR8 pR8;refine ah 7 (af (ao (i:=16) aZ.nd rfl (by trivial) (aH dr hr (aa (aG (aa (pv 1) (aa (pv 2) ag))) (aa (pv 14) ag)))) pR8) ?_;intro kR7 pR7;refine ah 6 (af (pj (i:=14) aZ.nd rfl (by trivial) ["_law_ring_here"] [] (gK _ []) rfl (by rfl) rfl (by trivial) (by trivial) (bP (by rfl)) (fz (by rfl)) mN mN (eS (by decide)) (bV (pv 5)) (fun _ _ _ _=>aK (i:=0) (show(["_law_ring_here"]:List Str).Nodup by trivial) rfl (Or.inl rfl) (Or.inr rfl)) (fun _ _ _ _=>gq) (fun _ _ _ _=>(de (gW (K:=K) rfl) (by rfl) B.list boot_list (aa (pv 0) ag)))) pR7) ?_;intro kR6 pR6;refine aC 5 9 (aj (bD ((lG (nE (iM (aH bT hr (aa (pv 15) ag)))) (lG (aP lJ (pv 15) (ay cT (bz (aa (pv 10) (aa (sr qF (pv 10)) ag))) (de ix (by rfl) B.int boot_int (aa (pv 8) ag)) (fun _ _=>rfl)) (aJ _)) (nA (aP (iR hu) (pv 14) (pv 9) (aJ _))))).pt) (aj (aF h8)) aS)) ?_;intro kS5x9 pS5x9;refine aC 5 8 (af (ao (i:=15) aZ.nd rfl (by trivial) (aH cE hr (aa (pv 14) ag))) pS5x9) ?_;intro kS5x8 pS5x8;refine aC 5 7 (af (ao (i:=14) aZ.nd rfl (by trivial) (de fj (by rfl) B.list boot_list (aa (pv 9) ag))) pS5x8) ?_;intro kS5x7 pS5x7;refine aC 5 6 (af (e9 (jN PySem.F.plainAttrs_list vQ vP cJ (pv 5) (aa (pv 9) ag))) pS5x7) ?_;intro kS5x6 pS5x6;refine aC 5 5 (b7 (bD (aP bS (ai aI (ai aQ (pv 7) ab) ab) ab (aJ _)) (af (ao (i:=12) aZ.nd rfl (by trivial) (ay cT (pv 9) ab (fun _ _=>rfl))) (af (ao (i:=13) aZ.nd rfl (by trivial) (ai aI (ai aL (ai aL (ay au (pv 12) ab (fun _ _=>rfl)) ab) (ai aI (ai aQ (pv 7) ab) (pv 2))) (ai aL (pv 2) ab))) (aj (ao (i:=9) aZ.nd rfl (by trivial) (ai nM (bz (aa (pv 12) (aa (aG (aa (ay au (pv 12) ab (fun _ _=>rfl)) (aa (pv 13) ag))) ag))) (pv 9)))))) aS) pS5x6) ?_;intro kS5x5 pS5x5;refine aC 5 4 (af (bM uL rfl (bV (aH cX hr (aa (pv 7) (aa (pv 1) (aa (pv 2) ag))))) (aK (i:=11) aZ.nd rfl (by trivial)) (af (e9 (jN PySem.F.plainAttrs_list vQ vP cJ (pv 4) (aa (pv 11) ag))) (af (ao (i:=9) aZ.nd rfl (by trivial) (ai nM (pv 9) (aH dE hr (aa (pv 11) (aa (pv 8) ag))))) (aj (ao (i:=10) aZ.nd rfl (by trivial) (ai aL (pv 10) (ai cY (ai cY ab (ai a7 (ay au (pv 11) ab (fun _ _=>rfl)) (ay au (pv 11) ab (fun _ _=>rfl)))) (ai a7 (ay au (pv 11) ab (fun _ _=>rfl)) (ay au (pv 11) ab (fun _ _=>rfl)))))))))) pS5x5) ?_;intro kS5x4 pS5x4;refine aC 5 3 (af (ao (i:=10) aZ.nd rfl (by trivial) ab) pS5x4) ?_;intro kS5x3 pS5x3;refine aC 5 2 (af (ao (i:=9) aZ.nd rfl (by trivial) (bz ag)) pS5x3) ?_;intro kS5x2 pS5x2;refine aC 5 1 (af (ao (i:=8) aZ.nd rfl (by trivial) (b9 bS (ai aI (ai aQ (pv 7) ab) ab) ab (aJ _))) pS5x2) ?_;intro kS5x1 pS5x1;refine aC 5 0 (af (ao (i:=7) aZ.nd rfl (by trivial) (aH bh hr (aa (aH aV hr (aa (pv 0) (aa (ai aL ab (pv 6)) ag))) ag))) pS5x1) ?_;intro kS5x0 pS5x0;refine ah 5 (af (bM uL rfl (c7 (by rfl) B.range (aa (ai aI (aH aV hr (aa (pv 0) (aa ab ag))) ab) ag)) (aK (i:=6) aZ.nd rfl (by trivial)) pS5x0) pR6) ?_;intro kR5 pR5;refine ah 4 (af (ao (i:=5) aZ.nd rfl (by trivial) (bz ag)) pR5) ?_;intro kR4 pR4;refine ah 3 (af (ao (i:=4) aZ.nd rfl (by trivial) (bz ag)) pR4) ?_;intro kR3 pR3;refine ah 2 (af (ao (i:=3) aZ.nd rfl (by trivial) (aH cG hr (aa (aH aV hr (aa (pv 0) (aa ab ag))) (aa (pv 1) (aa (pv 2) ag))))) pR3) ?_;intro kR2 pR2;refine ah 1 (af (ao (i:=2) aZ.nd rfl (by trivial) (ai aL ab (ai aI (ai aQ (aH aV hr (aa (pv 0) (aa ab ag))) ab) ab))) pR2) ?_;intro kR1 pR1;refine⟨_,(af (ao (i:=1) aZ.nd rfl (by trivial) (ai aL ab (ai aI (aH aV hr (aa (pv 0) (aa ab ag))) ab))) pR1),?_⟩;obtain⟨w,ew,hw,hw8⟩:=qA (ns.getD 0 0);obtain⟨h,eh,hh,hh8⟩:=qA (ns.getD 0 0 / 8);have hwh:w*h<=64:=Nat.mul_le_mul hw8 hh8;have hwp:0<w*h:=Nat.mul_pos hw hh;have e1:((w:Int)*(h:Int))=((w*h:Nat):Int):=by simp
 refine⟨_,rfl,a,ns,0,rfl,hS,_,_,rfl,rfl,(by show(0:Int)<_;decide),_,_,rfl,rfl,?_⟩;simp only[ew];refine⟨_,rfl,a,ns,0,rfl,hS,_,_,rfl,rfl,⟨by decide,by decide⟩,_,_,rfl,rfl,(by show(0:Int)<_;decide),_,_,rfl,rfl,?_⟩;simp only[eh];refine⟨_,rfl,a,ns,1,rfl,hS,_,rfl,_,rfl,_,w,h,rfl,⟨hw,hw8,hh,hh8⟩,fun g H1 hg s1=>?_⟩;refine⟨az rfl,fun lb hlb=>?_⟩;have u2:=aq.upd (o:=.lst []) hlb;have k2:(upd H1 lb (.lst [])) lb=some (.lst []):=ae;have lb1:=none_of s1 hlb;generalize (upd H1 lb (.lst []))=H2 at u2 k2 ⊢;refine⟨az rfl,fun ls hls=>?_⟩;have u3:=aq.upd (o:=.lst []) hls;have k3:(upd H2 ls (.lst [])) ls=some (.lst []):=ae;have ls1:=none_of (s1.trans u2) hls;have nbs:lb≠ls:=fun z=>by rw[z,hls]at k2;cases k2
 have kb3:=u3 _ _ k2;have s03:=s1.trans (u2.trans u3);generalize (upd H2 ls (.lst []))=H3' at u3 k3 kb3 s03 ⊢;obtain⟨H3,eH3⟩:∃H3:Hp,H3=H:=⟨_,rfl⟩;rw[<-eH3]at s03 hS lb1 ls1;have c0:=u6 (ns.getD 2 0) (show(5:Int)≠0 by decide);have c1:=uR (ns.getD 2 0) (show(0:Int)<5 by decide);refine⟨_,rfl,a,ns,2,rfl,s03.seq hS,_,_,rfl,rfl,(by show(0:Int)<5;decide),_,rfl,by omega,by omega,?_⟩;refine d8 (lo:=0) (n:=(ns.getD 2 0 % 5).toNat) (fun i σ HH=>∃(o6 o7 o8 o9 o10 o11 o12 o13 o14 o15 o16 o17:Option V)(vb:List V)(zs:List (Bool×LO.Bx))(vr:List V)(Rs:List (List LO.Pt)),σ=[some (.ref a),some (.int (w:Nat)),some (.int (h:Nat)),some (.int (g:Nat)),some (.ref lb),some (.ref ls),o6,o7,o8,o9,o10,o11,o12,o13,o14,o15,o16,o17]/\(aq H3 HH/\HH lb=some (.lst vb)/\Paired (dG K HH) vb (zs.map (·.2))/\HH ls=some (.lst vr)/\Paired (RnE lb ls K HH) vr Rs)/\(LO.cq (Rs.map (LO.bK (·^^^·) 0 (LO.fX w h)))=LO.cq (zs.map fun z=>LO.bmk w h z.1 z.2)/\(∀R∈Rs,R.length<=10/\∀p∈R,-20<=p.1/\p.1<=20/\ -20<=p.2/\p.2<=20)/\(∀z∈zs,LO.oH w h z.2))/\zs.length<=2*i/\Rs.length<=i) ⟨none,none,none,none,none,none,none,none,none,none,none,none,[],[],[],[],rfl,⟨s03,kb3,.nil,k3,.nil⟩,⟨rfl,fun _ z=>(vE z).elim,fun _ z=>(vE z).elim⟩,by simp,by simp⟩ ?_ ?_
 ·rintro i σ HH hi ⟨o6,o7,o8,o9,o10,o11,o12,o13,o14,o15,o16,o17,vb,zs,vr,Rs,rfl,⟨sH,kb,pb,kr,pr⟩,⟨ex,rb,okz⟩,lz,lR⟩;rw[show(0:Int)+(i:Int)=((i:Nat):Int) by omega];refine dj ?_;intro kD1;have i5:i<5:=by omega
  refine⟨_,rfl,_,rfl,_,_,rfl,rfl,a,ns,3+i,(by rw[Int.natCast_add];rfl),sH.seq hS,_,rfl,fun c=>?_⟩;refine⟨_,rfl,_,_,rfl,rfl,⟨by decide,by decide⟩,_,_,rfl,rfl,(by show(0:Int)<2;decide),rfl,?_⟩;obtain⟨tu,etu⟩:∃tu:Bool,tu=decide (V.int (c / 4096 % 2)=V.int 1):=⟨_,rfl⟩;refine⟨az rfl,fun lr hlr=>?_⟩;have u4:=aq.upd (o:=.lst []) hlr;have k4:(upd HH lr (.lst [])) lr=some (.lst []):=ae;have nrb:lr≠lb:=fun z=>by rw[z,kb]at hlr;cases hlr
  have nrs:lr≠ls:=fun z=>by rw[z,kr]at hlr;cases hlr
  have sH4:=sH.trans u4;have kb4:=u4 _ _ kb;have kr4:=u4 _ _ kr;have pb4:=Paired.imp (fun _ _ z=>dG.tk u4.tk z) pb;have pr4:=Paired.imp (fun _ _ z=>RnE.same u4 z) pr;generalize (upd HH lr (.lst []))=H4 at u4 k4 sH4 kb4 kr4 pb4 pr4 ⊢;refine⟨_,rfl,_,rfl,_,rfl,c,w,h,rfl,⟨by omega,by omega⟩,⟨by omega,by omega⟩,fun lx vx Bs H5 nx s5 hlx pB okB=>?_⟩;have nxb:lx≠lb:=fun z=>by rw[z,kb4]at nx;cases nx
  have lB2:=okB.len;have lvx:vx.length=Bs.length:=uj pB;have lvb:vb.length=zs.length:=by rw[uj pb,tX]
  refine⟨lx,rfl,⟨_,SqL.of hlx⟩,bW (K:=K) (a:=lx) (xs:=vx) (fun j σ HH=>∃(o11:Option V)(lr:Addr)(xr:List V),σ=[some (.ref a),some (.int (w:Nat)),some (.int (h:Nat)),some (.int (g:Nat)),some (.ref lb),some (.ref ls),some (.int (i:Nat)),some (.int c),some (.bl tu),some (.ref lr),some (.int (LO.cC (Bs.take j))),o11,o12,o13,o14,o15,o16,o17]/\aq H3 HH/\HH lb=some (.lst (vb++vx.take j))/\Paired (dG K HH) (vb++vx.take j) (zs.map (·.2)++Bs.take j)/\HH ls=some (.lst vr)/\Paired (RnE lb ls K HH) vr Rs/\HH lx=some (.lst vx)/\Paired (dG K HH) vx Bs/\lr≠lb/\lr≠ls/\HH lr=some (.lst xr)/\Paired (PtE K HH) xr ((Bs.take j).map (LO.ba tu)).flatten) ⟨o11,lr,[],by rw[etu];rfl,sH4.trans s5,by rw[List.take_zero,uN];exact s5 _ _ kb4,by rw[List.take_zero,uN,List.take_zero,uN];exact Paired.imp (fun _ _ z=>dG.tk s5.tk z) pb4,s5 _ _ kr4,Paired.imp (fun _ _ z=>RnE.same s5 z) pr4,hlx,pB,nrb,nrs,s5 _ _ k4,.nil⟩ (fun j σ HH _ hPz=>hPz.elim fun _ hPz=>hPz.elim fun _ hPz=>hPz.elim fun _ hPz=>(fun z=>SqL.of z) (hPz.2.2.2.2.2.2.1)) ?_ ?_⟩
  ·rintro j v σ H6 hj ⟨o11',lr',xr,rfl,s6,kb6,pb6,kr6,pr6,kx6,pB6,nb',ns',kl6,pl6⟩;refine dj ?_;intro kD2;obtain⟨B,hBj,t,rfl,hB⟩:=a9 pB6 hj;have okb:=okB.ok B (uC hBj);have j2:j<Bs.length:=(t8.mp hBj).1;have x0:=okb.x0;have x1:=okb.x1;have x2:=okb.x2;refine⟨_,rfl,.inl ⟨rfl,_,SqL.of kb6⟩,_,rfl,lb,_,_,rfl,rfl,kb6,a8 (by rw[uA,uf];omega),?_⟩;have tk7:=TK.lst (o:=.lst (vb++vx.take j++[.ref t])) kb6;have s7:aq H3 (upd H6 lb (.lst (vb++vx.take j++[.ref t]))):=fun b5 o5 e5=>by
    rw[ax (fun z=>by rw[z,lb1]at e5;cases e5)];exact s6 _ _ e5
   have kb7:(upd H6 lb (.lst (vb++vx.take j++[.ref t]))) lb=some (.lst (vb++vx.take j++[.ref t])):=ae;have kr7:(upd H6 lb (.lst (vb++vx.take j++[.ref t]))) ls=some (.lst vr):=(by rw[ax (Ne.symm nbs)];exact kr6);have kx7:(upd H6 lb (.lst (vb++vx.take j++[.ref t]))) lx=some (.lst vx):=(by rw[ax nxb];exact kx6);have kl7:(upd H6 lb (.lst (vb++vx.take j++[.ref t]))) lr'=some (.lst xr):=(by rw[ax nb'];exact kl6);have pr7:=Paired.imp (fun _ _ z=>RnE.putB (ys:=vb++vx.take j++[.ref t]) kb6 z) pr6;have pb7:=Paired.imp (fun _ _ z=>dG.tk tk7 z) pb6;have pB7:=Paired.imp (fun _ _ z=>dG.tk tk7 z) pB6;have pl7:=Paired.imp (fun _ _ z=>PtE.tk tk7 z) pl6;have hB7:=hB.tk tk7;generalize (upd H6 lb (.lst (vb++vx.take j++[.ref t])))=H7 at tk7 s7 kb7 kr7 kx7 kl7 pr7 pb7 pB7 pl7 hB7 ⊢;refine⟨_,rfl,_,rfl,_,rfl,t,tu,B,rfl,hB7,fun lq H8 nq s8 ⟨xq,hq,pq⟩=>⟨lr',lq,xr,xq,rfl,rfl,s8 _ _ kl7,hq,?_,fun p hp=>?_⟩⟩
   ·have l1:xr.length<=8:=by
     rw[uj pl7,List.length_flatten,uX];have:∀(l:List LO.Bx),(l.map (List.length ∘ LO.ba tu)).sum=4*l.length:=fun l=>by
      induction l with
      |nil=>rfl
      |cons b l ih=>rw[uO,List.sum_cons,ih,List.length_cons];have:(List.length ∘ LO.ba tu) b=4:=(by cases tu<;>rfl);omega
     rw[this,uf];omega
    have l2:xq.length=4:=by rw[uj pq];cases tu<;>rfl
    exact Nat.le_of_lt (a8 (by omega))
   have u9:=aq.upd (o:=.lst (xr++xq)) hp;have k9:(upd H8 p (.lst (xr++xq))) p=some (.lst (xr++xq)):=ae;have s79:=s8.trans u9;have npb:p≠lb:=fun z=>by rw[z,s8 _ _ kb7]at hp;cases hp
   have nps:p≠ls:=fun z=>by rw[z,s8 _ _ kr7]at hp;cases hp
   generalize (upd H8 p (.lst (xr++xq)))=H9 at u9 k9 s79 ⊢;have hB9:=hB7.tk s79.tk;refine⟨_,rfl,_,rfl,t,_,_,_,rfl,rfl,hB9,ak (j:=2) rfl,_,rfl,t,_,_,_,rfl,rfl,hB9,ak (j:=0) rfl,_,_,rfl,rfl,_,_,rfl,rfl,.inl ⟨by decide,by decide⟩,_,rfl,t,_,_,_,rfl,rfl,hB9,ak (j:=3) rfl,_,rfl,t,_,_,_,rfl,rfl,hB9,ak (j:=1) rfl,_,_,rfl,rfl,_,_,rfl,rfl,.inl ⟨(by show-(2^64)<2*(B.2.2.1-B.1);omega),(by show 2*(B.2.2.1-B.1)<2^64;omega)⟩,_,_,rfl,rfl,?_⟩;have ed:LO.cC (Bs.take (j+1))=LO.cC (Bs.take j)+2*(B.2.2.1-B.1)*(B.2.2.2-B.2.1):=by rw[uq,hBj,uw,LO.j8]
   have ev:vx.take (j+1)=vx.take j++[.ref t]:=(by rw[uq,hj,uw]);have eB:Bs.take (j+1)=Bs.take j++[B]:=(by rw[uq,hBj,uw]);refine⟨some (.ref t),p,xr++xq,by rw[ed];rfl,s7.trans s79,?_,?_,s79 _ _ kr7,Paired.imp (fun _ _ z=>RnE.same s79 z) pr7,s79 _ _ kx7,Paired.imp (fun _ _ z=>dG.tk s79.tk z) pB7,npb,nps,k9,?_⟩
   ·rw[ev,<-uk];exact s79 _ _ kb7
   ·rw[ev,eB,<-uk,<-uk];exact Paired.app (Paired.imp (fun _ _ z=>dG.tk s79.tk z) pb7) (.cons ⟨t,rfl,hB9⟩ .nil)
   ·rw[eB,uZ,List.flatten_append];refine Paired.app (Paired.imp (fun _ _ z=>PtE.tk s79.tk z) pl7) ?_;show Paired _ xq (LO.ba tu B++[]);rw[uN];exact Paired.imp (fun _ _ z=>PtE.tk u9.tk z) pq
  ·rintro σ H6 ⟨o11',lr',xr,rfl,s6,kb6,pb6,kr6,pr6,kx6,pB6,nb',ns',kl6,pl6⟩;have eBs:Bs.take vx.length=Bs:=(by rw[lvx,uG]);rw[eBs]at pl6 pb6;rw[eBs];rw[uG]at pb6 kb6;have rB:LO.RgB w h tu Bs _:=LO.p9 (tu:=tu) hw8 hh8 okB;generalize (Bs.map (LO.ba tu)).flatten=R0 at pl6 rB;refine⟨fun σ HH=>∃(o11 o12 o13:Option V)(lr:Addr)(xr:List V)(R:List LO.Pt),σ=[some (.ref a),some (.int (w:Nat)),some (.int (h:Nat)),some (.int (g:Nat)),some (.ref lb),some (.ref ls),some (.int (i:Nat)),some (.int c),some (.bl tu),some (.ref lr),some (.int (LO.cC Bs)),o11,o12,o13,o14,o15,o16,o17]/\aq H3 HH/\HH lb=some (.lst (vb++vx))/\Paired (dG K HH) (vb++vx) (zs.map (·.2)++Bs)/\HH ls=some (.lst vr)/\Paired (RnE lb ls K HH) vr Rs/\lr≠lb/\lr≠ls/\HH lr=some (.lst xr)/\Paired (PtE K HH) xr R/\LO.RgC w h tu Bs R,?_,?_⟩
   ·refine⟨_,rfl,_,_,rfl,rfl,⟨by decide,by decide⟩,_,_,rfl,rfl,(by show(0:Int)<2;decide),rfl,_,rfl,?_⟩;refine bx (fun _=>?_) (fun _=>?_)
    ·obtain⟨c0,Y,eR,y0,x0,x8⟩:=rB.hd;obtain⟨pc,rest,rfl,hpc⟩:∃pc rest,xr=.ref pc::rest/\SqT K H6 pc [.int c0.1,.int c0.2]:=by
      rw[eR]at pl6;cases pl6 with
      |cons z _=>obtain⟨pc,rfl,hpc⟩:=z;exact⟨pc,_,rfl,hpc⟩
     refine⟨_,rfl,lr',_,_,_,rfl,rfl,SqL.of kl6,ak (j:=0) rfl,?_⟩;have h1:(0:Int)<((h:Nat):Int)+1:=(by omega);have m1:=u6 (c0.2+1+c / 1048576 % ((h:Nat):Int)) (show((h:Nat):Int)+1≠0 by omega);have m2:=uR (c0.2+1+c / 1048576 % ((h:Nat):Int)) h1;refine⟨_,rfl,pc,_,_,_,rfl,rfl,hpc,ak (j:=1) rfl,_,_,rfl,rfl,_,rfl,_,_,rfl,rfl,⟨by decide,by decide⟩,_,rfl,_,_,rfl,rfl,(by show(0:Int)<(h:Nat);omega),_,_,rfl,rfl,_,rfl,_,_,rfl,rfl,_,_,rfl,rfl,h1,?_⟩;obtain⟨y,ey⟩:∃y:Int,y=(c0.2+1+c / 1048576 % ((h:Nat):Int)) % (((h:Nat):Int)+1):=⟨_,rfl⟩;rw[<-ey]at m1 m2;refine⟨_,rfl,_,rfl,pc,_,_,_,rfl,rfl,hpc,ak (j:=0) rfl,_,rfl,az rfl,fun t ht=>⟨az rfl,fun l2 hl2=>?_⟩⟩;have v1:=aq.upd (o:=.tup [.int c0.1,.int y]) ht;have t1:SqT K (upd H6 t (.tup [.int c0.1,.int y])) t [.int c0.1,.int y]:=SqT.of ae;rw[ey]at v1 t1;generalize (upd H6 t (.tup [.int c0.1,.int ((c0.2+1+c / 1048576 % ((h:Nat):Int)) % (((h:Nat):Int)+1))]))=H7 at v1 t1 hl2 ⊢;have v2:=aq.upd (o:=.lst [.ref pc,.ref t]) hl2;have k2':(upd H7 l2 (.lst [.ref pc,.ref t])) l2=some (.lst [.ref pc,.ref t]):=ae;have v12:=v1.trans v2;have t2:=v2.tup t1;generalize (upd H7 l2 (.lst [.ref pc,.ref t]))=H8 at v2 k2' v12 t2 ⊢;refine⟨_,rfl,l2,lr',_,_,rfl,rfl,k2',v12 _ _ kl6,?_,fun p hp=>?_⟩
     ·have:=uj pl6;have:=rB.len;exact Nat.le_of_lt (a8 (by simp at*;omega))
     have u9:=aq.upd (o:=.lst ([.ref pc,.ref t]++ .ref pc::rest)) hp;have k9:(upd H8 p (.lst ([.ref pc,.ref t]++ .ref pc::rest))) p=some (.lst ([.ref pc,.ref t]++ .ref pc::rest)):=ae;have s79:=v12.trans u9;have npb:p≠lb:=fun z=>by rw[z,v12 _ _ kb6]at hp;cases hp
     have nps:p≠ls:=fun z=>by rw[z,v12 _ _ kr6]at hp;cases hp
     generalize (upd H8 p (.lst ([.ref pc,.ref t]++ .ref pc::rest)))=H9 at u9 k9 s79 ⊢;rw[<-ey]at t2;exact⟨_,_,_,p,_,[c0,(c0.1,y)]++R0,rfl,s6.trans s79,s79 _ _ kb6,Paired.imp (fun _ _ z=>dG.tk s79.tk z) pb6,s79 _ _ kr6,Paired.imp (fun _ _ z=>RnE.same s79 z) pr6,npb,nps,k9,.cons ⟨pc,rfl,s79.tup hpc⟩ (.cons ⟨t,rfl,u9.tup t2⟩ (Paired.imp (fun _ _ z=>PtE.tk s79.tk z) pl6)),rB.spike eR m1 (by omega)⟩
    ·exact⟨_,_,_,lr',xr,R0,rfl,s6,kb6,pb6,kr6,pr6,nb',ns',kl6,pl6,rB.c⟩
   clear kb6 pb6 kr6 pr6 kx6 pB6 kl6 pl6 s6 nb' ns' rB;rintro σ H6 ⟨o11,o12,o13,lr,xr,R,rfl,s6,kb6,pb6,kr6,pr6,nb',ns',kl6,pl6,rC⟩;have lvr:vr.length=Rs.length:=uj pr6;refine⟨_,rfl,.inl ⟨rfl,_,SqL.of kr6⟩,_,rfl,ls,_,_,rfl,rfl,kr6,a8 (by omega),?_⟩;have tk7:=TK.lst (o:=.lst (vr++[.ref lr])) kr6;have s7:aq H3 (upd H6 ls (.lst (vr++[.ref lr]))):=fun b5 o5 e5=>by rw[ax (fun z=>by rw[z,ls1]at e5;cases e5)];exact s6 _ _ e5
   have kb7:(upd H6 ls (.lst (vr++[.ref lr]))) lb=some (.lst (vb++vx)):=(by rw[ax nbs];exact kb6);have kr7:(upd H6 ls (.lst (vr++[.ref lr]))) ls=some (.lst (vr++[.ref lr])):=ae;have kl7:(upd H6 ls (.lst (vr++[.ref lr]))) lr=some (.lst xr):=(by rw[ax ns'];exact kl6);have pl7:=Paired.imp (fun _ _ z=>PtE.tk tk7 z) pl6;have pb7:=Paired.imp (fun _ _ z=>dG.tk tk7 z) pb6;have pr7:Paired (RnE lb ls K (upd H6 ls (.lst (vr++[.ref lr])))) (vr++[.ref lr]) (Rs++[R]):=Paired.app (Paired.imp (fun _ _ z=>RnE.putS kr6 z) pr6) (.cons ⟨lr,rfl,nb',ns',xr,kl7,pl7⟩ .nil);generalize (upd H6 ls (.lst (vr++[.ref lr])))=H7 at tk7 s7 kb7 kr7 kl7 pl7 pb7 pr7 ⊢;refine⟨_,rfl,lr,xr,rfl,.inl (SqL.of kl7),fun lh hlh=>?_⟩;have u8:=aq.upd (o:=.lst xr) hlh;have kh8:(upd H7 lh (.lst xr)) lh=some (.lst xr):=ae;generalize (upd H7 lh (.lst xr))=H8 at u8 kh8 ⊢;have ph8:dN K H8 lh R:=⟨xr,kh8,Paired.imp (fun _ _ z=>PtE.tk u8.tk z) pl7⟩;refine⟨_,rfl,lh,R,rfl,ph8,rC.pb,fun H9 s9=>?_⟩;refine⟨_,rfl,_,"int",rfl,dF.int _,_,rfl,ro ?_⟩;refine⟨_,rfl,_,rfl,_,rfl,_,rfl,az rfl,fun l3 hl3=>?_⟩;have u10:=aq.upd (o:=.lst [.int (LO.cC Bs),.int (-LO.cC Bs)]) hl3;have k10:(upd H9 l3 (.lst [.int (LO.cC Bs),.int (-LO.cC Bs)])) l3=some (.lst [.int (LO.cC Bs),.int (-LO.cC Bs)]):=ae;generalize (upd H9 l3 (.lst [.int (LO.cC Bs),.int (-LO.cC Bs)]))=H10 at u10 k10 ⊢;refine⟨_,rfl,.inr ⟨_,rfl,l3,_,_,.int (if tu=true then-LO.cC Bs else LO.cC Bs),rfl,rfl,SqL.of k10,(by cases tu<;>rfl),rfl,_,rfl,?_⟩⟩;refine bx (fun z=>absurd z (by rw[rC.a];simp)) (fun _=>?_);have s810:=s9.trans u10;have s710:=u8.trans s810;refine⟨_,rfl,_,rfl,_,_,(ph8.same s810).isD,dN.isD (R:=R) ⟨xr,s710 _ _ kl7,Paired.imp (fun _ _ z=>PtE.tk s710.tk z) pl7⟩,e8 R,e8 R,vk (jH R) (by decide),_,rfl,?_⟩;refine bx (fun z=>absurd z (by rw[SeqAt.eqv_refl _ (e8 R)];exact tZ)) (fun _=>?_);have e2:(zs++Bs.map fun B=>(tu,B)).map (·.2)=zs.map (·.2)++Bs:=by rw[uZ,uX];congr 1;exact List.map_id _
   refine⟨_,_,_,_,_,_,_,_,_,_,_,_,vb++vx,zs++Bs.map fun B=>(tu,B),vr++[.ref lr],Rs++[R],rfl,⟨s7.trans s710,s710 _ _ kb7,?_,s710 _ _ kr7,Paired.imp (fun _ _ z=>RnE.same s710 z) pr7⟩,⟨?_,?_,?_⟩,?_,?_⟩
   ·rw[e2];exact Paired.imp (fun _ _ z=>dG.tk s710.tk z) pb7
   ·rw[uZ,uZ,LO.fV,LO.fV,ex];congr 1;show LO.cq [LO.bK _ _ _ R]=_;rw[rC.x,uX];exact Nat.xor_zero _
   ·intro R' hR';rcases ub.mp hR' with z|z
    ·exact rb R' z
    ·rw[ua.mp z];exact⟨rC.len,rC.pb⟩
   ·intro z hz;rcases ub.mp hz with y|y
    ·exact okz z y
    ·obtain⟨B,hB,rfl⟩:=uu.mp y;exact okB.ok B hB
   ·rw[uA,tX];omega
   ·rw[uA];show Rs.length+1<=i+1;omega
 ·rintro σ HH ⟨o6,o7,o8,o9,o10,o11,o12,o13,o14,o15,o16,o17,vb,zs,vr,Rs,rfl,⟨sH,kb,pb,kr,pr⟩,⟨ex,rb,okz⟩,lz,lR⟩;have l5:Rs.length<=5:=by omega
  refine⟨_,rfl,ls,rfl,⟨_,SqL.of kr⟩,fun D hD=>?_⟩;refine qD (K:=K) (a:=ls) (xs:=vr) (fun i acc H2=>aq HH H2/\H2 D=some (.lst acc)/\Paired (RnE D D K H2) acc (Rs.take i)) ⟨aq.upd hD,ae,.nil⟩ (fun i acc H2 _ z=>SqL.of (z.1 _ _ kr)) ?_ ?_
  ·rintro i v acc H2 hi ⟨s2,h2,p2⟩;refine j0 ?_;intro kq3 kr3;obtain⟨R,hR,b,rfl,n1,n2,xs,hb,pxs⟩:=a9 pr hi;refine⟨_,rfl,b,xs,rfl,.inl (SqL.of (s2 _ _ hb)),fun l hl=>?_⟩;have u3:=aq.upd (o:=.lst xs) hl;have nl:l≠D:=fun z=>by rw[z,h2]at hl;cases hl
   have lacc:acc.length<sizeLine:=by rw[uj p2,uf];exact a8 (by omega)
   refine⟨u3 _ _ h2,lacc,fun b5 o5 e5=>?_,ae,?_⟩
   ·rw[ax (fun z=>by rw[z,hD]at e5;cases e5)];exact u3 _ _ (s2 _ _ e5)
   ·rw[uq,hR,uw];exact Paired.app (Paired.imp (fun _ _ z=>(z.same u3).putB (u3 _ _ h2)) p2) (.cons (RnE.putB (u3 _ _ h2) ⟨l,rfl,nl,nl,xs,ae,Paired.imp (fun _ _ z=>PtE.tk (s2.trans u3).tk z) pxs⟩) .nil)
  rintro acc H2 ⟨s2,h2,p2⟩;rw[uj pr,uG]at p2;refine⟨_,rfl,_,rfl,az rfl,fun t ht=>?_⟩;have u3:=aq.upd (o:=.tup [.int (w:Nat),.int (h:Nat)]) ht;have t3:SqT K (upd H2 t (.tup [.int (w:Nat),.int (h:Nat)])) t [.int (w:Nat),.int (h:Nat)]:=SqT.of ae;generalize (upd H2 t (.tup [.int (w:Nat),.int (h:Nat)]))=H4 at u3 t3 ⊢;refine⟨_,rfl,t,D,w,h,acc,Rs,rfl,t3,⟨hw,hw8⟩,⟨hh,hh8⟩,u3 _ _ h2,Paired.imp (fun _ _ z=>(z.same u3).rng) p2,fun R hR=>⟨vk (rb R hR).1 (by decide),(rb R hR).2⟩,fun H5 s5=>?_⟩;refine⟨_,rfl,_,"int",rfl,dF.int _,_,rfl,ro ?_⟩;have s25:=s2.trans (u3.trans s5);refine⟨_,rfl,_,rfl,_,rfl,_,rfl,lb,w,h,vb,zs.map (·.2),rfl,⟨hw,hw8⟩,⟨hh,hh8⟩,s25 _ _ kb,Paired.imp (fun _ _ z=>dG.tk s25.tk z) pb,(by rw[tX];omega),fun H6 s6=>⟨rfl,_,rfl,?_⟩⟩;refine bx (fun z=>absurd z (by rw[ex,LO.qZ okz];simp)) (fun _=>?_);have s46:=u3.trans (s5.trans s6);have s06:=s25.trans s6;refine⟨_,rfl,_,rfl,_,_,.lst (SqL.of (s46 _ _ h2)) (hJ (Paired.imp (fun _ _ z=>(z.same s46).rng) p2)),.lst (SqL.of (s06 _ _ kr)) (hJ (Paired.imp (fun _ _ z=>(z.same s06).rng) pr)),ft Rs,ft Rs,mw Rs,_,rfl,?_⟩;refine bx (fun z=>absurd z (by rw[SeqAt.eqv_refl _ (ft Rs)];exact tZ)) (fun _=>?_);refine⟨_,rfl,_,rfl,az rfl,fun t2 ht2=>⟨az rfl,fun le hle=>?_⟩⟩;have u7:=aq.upd (o:=.tup [.int (w:Nat),.int (h:Nat)]) ht2;have t7:SqT K (upd H6 t2 (.tup [.int (w:Nat),.int (h:Nat)])) t2 [.int (w:Nat),.int (h:Nat)]:=SqT.of ae;generalize (upd H6 t2 (.tup [.int (w:Nat),.int (h:Nat)]))=H7 at u7 t7 hle ⊢;have u8:=aq.upd (o:=.lst []) hle;refine⟨t2,le,w,h,[],[],rfl,u8.tup t7,⟨hw,hw8⟩,⟨hh,hh8⟩,ae,.nil,fun R hR=>(vE hR).elim,fun H9 s9=>⟨rfl,_,rfl,?_⟩⟩;refine bx (fun z=>absurd z (by simp[LO.cq])) (fun _=>?_);refine⟨_,rfl,_,rfl,az rfl,fun t4 ht4=>?_⟩;have u10:=aq.upd (o:=.tup [.int (w:Nat),.int (h:Nat)]) ht4;have t10:SqT K (upd H9 t4 (.tup [.int (w:Nat),.int (h:Nat)])) t4 [.int (w:Nat),.int (h:Nat)]:=SqT.of ae;generalize (upd H9 t4 (.tup [.int (w:Nat),.int (h:Nat)]))=H10 at u10 t10 ⊢;refine⟨_,rfl,_,rfl,az rfl,fun t5 ht5=>?_⟩;have u11:=aq.upd (o:=.tup [.int (w:Nat),.int (h:Nat)]) ht5;have t11:SqT K (upd H10 t5 (.tup [.int (w:Nat),.int (h:Nat)])) t5 [.int (w:Nat),.int (h:Nat)]:=SqT.of ae;have t10':=u11.tup t10;generalize (upd H10 t5 (.tup [.int (w:Nat),.int (h:Nat)]))=H11 at u11 t11 t10' ⊢;refine⟨_,rfl,t5,w,h,g,rfl,t11,⟨hw,hw8⟩,⟨hh,hh8⟩,hg,fun lR vR Ws H12 s12 hlR pR rs so lF lW=>?_⟩;refine⟨t4,lR,w,h,vR,Ws.map LO.bL,rfl,s12.tup t10',⟨hw,hw8⟩,⟨hh,hh8⟩,hlR,pR,fun R hR=>?_,fun H13 s13=>?_⟩
  ·obtain⟨W,hW,rfl⟩:=uu.mp hR;obtain⟨s,n,l⟩:=rs.wk W hW;refine⟨?_,fun p hp=>?_⟩
   ·have e1:=je (LO.fK W) W;have e2:=LM.length_le_of_subset (l2:=Ws.flatten) l.nd fun x hx=>List.mem_flatten.mpr ⟨W,hW,hx⟩;show(LO.cor (LO.fK W) W).length<=256;omega
   ·obtain⟨sd,hsd,rfl⟩:=LO.lZ hp;obtain⟨a1,a2,_⟩:=LO.kS hw8 hh8 (LO.cg.mp (l.is.brd sd hsd)).1;exact⟨by show-20<=sd.x;omega,by show sd.x<=20;omega,by show-20<=sd.y;omega,by show sd.y<=20;omega⟩
  refine⟨_,rfl,_,"int",rfl,dF.int _,_,rfl,tJ ?_⟩;refine⟨_,rfl,_,rfl,rfl,?_⟩;rw[rs.xor hw hg,tS rfl];exact q _
end
end My
structure PySem.W.Fast:Prop where (tw5857045300367812215 tw3796097726772533315 tw7460226012050199960 tw15161517840315980777 tw996221788338390570 tw5683713726618025439 tw13922546133227403473 tw10557540811878607094 tw7166423618010207645 tw10687119230304807385 tw6431553743843495113 tw6668240596881244619 tw16609496310312876263 tw1986178871049464195 tw17149869842055709882 tw9930744269908712455 tw13077559490584303000 tw12916933720425323107 tw2498908115960918589 tw12879481319607163186 tw15060215784517982879 tw6178708781672082025 tw2910394221243828588 tw3766847069474727088 tw11295813143826810069 tw16722914589844342264 tw4540338808562246809 tw15201800941787904015 tw4179841432161971863 tw10022933583989784038 tw15049736714464366852 tw6336950891254264279 tw18367716807734920843 tw4300585669139089924 tw5940048240203156001 tw10938287820003192307 tw2981725491127527016 tw2333025035488546325 tw369779531361419707 tw11774809078358932036 tw17424524653987377874 tw2351951212015036087 tw10421497655822611375 tw6083417454189310449 tw10013878774612729427 tw5430594129675436537 tw17173187126093782743 tw6440248429259997437 tw2177637578313326695 tw15221995079220553639 tw10009769757509312390 tw11094842027858689016 tw1475543419191867521 tw51377461841926434 tw1142125849091945918 tw7412143799401060866 tw7380792433249894255 tw12583026147991024234 tw11464960513058033725 tw13545670294805363511 tw14672782480036738316 tw9077314303148789985 tw7870354158017934701 tw13350345828946865104 tw5600211674315730120 tw8225258532957709443 tw8217598889467280971 tw15509419093301774945 tw10569655844966594256 tw3127111348830356737 tw8762108383625675514 tw15624622711442635488 tw17076944610131606695 tw12571644009990481292 tw15228877766262797962 tw1494632252689046641 tw2506230760312952585 tw13022732751541831738 tw10489920183844415193 tw7252599886113412976 tw3165255793888854429 tw9581129416165071948 tw8941354243740462372 tw2359149454683551661 tw16388899860368053237 tw9091512032834567022 tw7797620092403806286 tw17953256893122829357 tw13850478086160676158 tw6154146968628817700 tw4651913055430737631 tw4208475519845549428 tw5844333924688714661 tw12622901043286273923 tw10897856915523197721 tw3307623617807459786 tw10551585758087211570 tw3454240181135535706 tw16295213095263630139 tw12257293972945834066 tw1892095101737333854 tw11195623388886414488 tw17463055527853272772 tw9705074111380371917 tw854068798858734166 tw1468827048524944940 tw9973958899919015657 tw18373676316014305002 tw2580702741587658664 tw7862128286879238791 tw8614207608806281280 tw12546922092342500951 tw718114704516197669 tw6537613129763903877 tw16758123124752523004 tw142592403756710902 tw15250055243698660698 tw7109380243150290915 tw374790792690964644 tw7009023484574029471 tw16425970105797596544 tw6527871143839652789 tw14714628644489184281 tw14973580529105353506 tw10329237313622362081 tw13599562703944261110 tw5905171649855618841 tw9645707810513895529 tw3483476913112721428 tw10607955411671951342 tw3482992340043772046 tw9755961127214910087 tw11922399126532997807 tw4386618196476369654 tw2301642184647002743 tw4958051958536910813 tw16618970574443597498 tw5662259105779910920 tw3162399991713417998 tw12656811058039861862 tw11012132069211842450 tw2186757412297614978 tw1799544915460211532 tw16318823608290396162 tw9059887956133809977 tw2786279714023138954 tw6298802591811022099 tw15912872984219064948 tw644054199762199458 tw15362030042826501627 tw4705771886652596286 tw12225214960914827714 tw7557173458728918766 tw16836766270795923973 tw2257252773079276582 tw11473186080778050607 tw5474934789887805461 tw3165367654607641804 tw17776077750163977635 tw12653440808951985607 tw14619429516088732369 tw229261404777430278 tw6147408924884115300 tw13376282731873897096 tw16195735168611147945 tw9676106472454915182 tw3839829271207323235 tw1592498546629610921 tw5614980334539946634 tw7483140285720923637:True)
open PySem PySem.W PyProof.Rows
local macro_rules
 | `(tactic|trivial)=> `(tactic|(dsimp only[L2.KOf];refine' L2.rO (by assumption) (by assumption) ?a ?l ?c ?k (fun _ _ _ _ _ _=>by first|exact L2.sG fun _=>rfl|exact L2.sF fun _ _=>rfl|exact L2.sE fun _ _ _=>rfl|exact L2.sD fun _ _ _ _=>rfl|exact L2.sC fun _ _ _ _ _=>rfl|exact L2.sA fun _ _ _ _ _ _=>rfl|exact L2.tH fun _ _ _ _ _ _ _=>rfl);(case a=>k_is);(case l=>k_is);(case c=>k_is);(case k=>k_is)))
set_option maxRecDepth 100000 in
set_option maxHeartbeats 0 in
theorem PySem.Challenge.cw_landroll_k18_cells_back_from_rings_holds : PySem.Challenge.rw_landroll_k18_cells_back_from_rings.Holds := by
 w_on;o_law;k_head;(case hw=>w_witness2)
 k_fill
 refine L2.m9 (l:=PySem.Challenge.rw_landroll_k18_cells_back_from_rings) (n:=63) (k:=5) (x:="_law_script") (CX:=L2.CX0) (sp:=My.nk) rfl (by decide) rfl ⟨rfl,by decide,by decide⟩ (fun w h Y=>PySem.W.kIn_of Y) ?F ?S ?C
 case F=>
  intro w mg fa h KX G hmg;have B:L2.Bn mg:=by
   refine' L2.sU KX G ?z0 ?z1 ?z2 ?z3 ?z4 ?z5 ?z6 ?z7 ?z8 ?z9 ?z10 ?z11 ?z12 ?z13
   (case z0=>k_is);(case z1=>k_is);(case z2=>k_is);(case z3=>k_is);(case z4=>k_is);(case z5=>k_is);(case z6=>k_is);(case z7=>k_is);(case z8=>k_is);(case z9=>k_is);(case z10=>k_is);(case z11=>k_is);(case z12=>k_is);(case z13=>k_is)
  have rP:L2.Tx (L2.KOf KX) mg "law" (My.top 29) ["_law_script"]:=by trivial
  obtain⟨f,fd,F,b,hm⟩:=rP.ex;have e0:=hmg.symm.trans hm;cases e0;obtain⟨oc,od,kV,doc,pm,an,cdv,ct,osl,rfl,lk,hcd⟩:=id F.ex;refine⟨fnOf "law" "law" (L2.dC (My.top 29)) (L2.cD (My.top 29)) (L2.av (My.top 29)) .none kV doc pm an cdv ct,fun s u=>.of_eq rfl,fun base kb nb=>?_⟩;have fT:=My.nR (P:=My.Pg) (w:=w) (base:=base) (K:=L2.KOf KX) B (by trivial);have lY:=My.qY (P:=My.Pg) (w:=w) (base:=base) (K:=L2.KOf KX) B (by trivial);have bA:=My.iV (P:=My.Pg) (w:=w) (base:=base) (K:=L2.KOf KX) B (by trivial);have cN:=My.mJ (P:=My.Pg) (w:=w) (base:=base) (K:=L2.KOf KX) B (by trivial);have bC:=My.kC (P:=My.Pg) (w:=w) (base:=base) (K:=L2.KOf KX) B (by trivial);have cE:=My.gS (P:=My.Pg) (w:=w) (base:=base) (K:=L2.KOf KX) B (by trivial);have dD:=My.jO (P:=My.Pg) (w:=w) (base:=base) (K:=L2.KOf KX) B (by trivial);have aV:=My.gy (P:=My.Pg) (w:=w) (base:=base) (K:=L2.KOf KX) B (by trivial);have bT:=My.iS (P:=My.Pg) (w:=w) (base:=base) (K:=L2.KOf KX) B (by trivial);have bh:=My.jQ (P:=My.Pg) (w:=w) (base:=base) (K:=L2.KOf KX) B (by trivial);have cW:=My.iT (P:=My.Pg) (w:=w) (base:=base) (K:=L2.KOf KX) B (by trivial);have eg:=My.kE (P:=My.Pg) (w:=w) (base:=base) (K:=L2.KOf KX) B (by trivial);have dE:=My.jP (P:=My.Pg) (w:=w) (base:=base) (K:=L2.KOf KX) B (by trivial);have ef:=My.kD (P:=My.Pg) (w:=w) (base:=base) (K:=L2.KOf KX) B (by trivial);have cO:=My.mK B lY (by trivial);have cf:=My.gw B bA cN (by trivial);have bG:=My.gx B bC (by trivial);have cH:=My.gV B bC (by trivial);have cG:=My.gU B bh cW (by trivial);have cX:=My.iU B eg (by trivial);have fR:=My.nP B cO cf (by trivial);have cF:=My.gT B bG (by trivial);have bX:=My.fN B fT bA cN cO (by trivial);have fS:=My.nQ B cH fR cF (by trivial);have dr:=My.mL B dD bX (by trivial);exact My.qX B cE aV bT bh dE ef cG cX fS dr F
 case S=>exact fun K H a ns hl hO hS=>⟨a,ns,rfl,hS,hl,fun _=>rfl⟩
 case C=>exact fun _ _ _ _ h=>h
#print axioms PySem.Challenge.cw_landroll_k18_cells_back_from_rings_holds
