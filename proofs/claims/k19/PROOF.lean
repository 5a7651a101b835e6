import PyProof.Rows.All
import Wide.All
import OpenK.AllK
import Wide.FinOn
import Lean
import PyProof.EqAt
import PyProof.EqKinds
import PyProof.TupleCall
import PySem.Challenge.RW_landroll_k19_whole_rings_of_pieces
set_option Elab.async false
set_option linter.all false
set_option maxRecDepth 100000
open PySem.W (Frag kitOne keepIn fnOf codeIn nsIn)
section
open PySem PySem.Spec PyProof.Rows PyProof PySem.W PySem.Calls PySem.Builtin PySem.F
def uE:=@wpAny_bind
def uF:=@List.length_map
def uG:=@wpAny_pure
def uH:=@wpS_bind
def uI:=@Heap.get?_push_of_some
def uJ:=@wpS_pure
def uK:=@if_neg
def uL:=@List.mem_cons_of_mem
def uM:=@if_pos
def uN:=@List.mem_cons_self
def uO:=@List.length_append
def uP:=@Array.length_toList
def uQ:=@Nat.lt_of_lt_of_le
def uR:=@List.mem_append
def uS:=@List.getElem?_eq_some_iff
def uT:=@Bool.false_ne_true
def uU:=@Heap.lt_size
def uV:=@List.mem_singleton
def uW:=@Nat.le_refl
def uX:=@decide_eq_true_eq
def uY:=@Array.getElem?_toList
def uZ:=@List.size_toArray
def u0:=@List.mem_map
def va:=@List.getElem?_eq_getElem
def vb:=@List.length_take
def vc:=@List.mem_append_right
def ve:=@decide_eq_true
def vg:=@List.append_assoc
def vh:=@decide_eq_false
def vi:=@List.mem_of_getElem?
def vj:=@Heap.get?_push_size
def vl:=@Array.toList_append
def vm:=@Array.toList_push
def vn:=@List.mem_cons
def vo:=@List.take_add_one
def vp:=@List.map_cons
def vq:=@List.mem_append_left
def vu:=@Option.toList_some
def vv:=@Nat.ne_of_lt
def vx:=@Paired.length
def vy:=@PySem.W.mg_none_of
def vz:=@List.getElem?_map
def vA:=@List.pairwise_append
def vB:=@PySem.F.plainAttrs_list
def vC:=@List.cons.inj
def vD:=@List.mem_range
def vE:=@Int.toNat_natCast
def vF:=@Bool.false_eq_true
def vG:=@List.append_nil
def vH:=@PySem.F.type_list_append
def vI:=@PySem.F.slot_list_append
def vJ:=@Nat.pow_le_pow_right
def vK:=@Bool.and_eq_true
def vL:=@List.take_append_drop
def vM:=@List.nodup_cons
def vN:=@Nat.zero_le
def vO:=@List.take_length
def vP:=@List.reverse_append
def vQ:=@Int.eq_ofNat_of_zero_le
def vR:=@PassesOwn.never
def vS:=@List.pairwise_iff_getElem
def vT:=@List.mem_of_mem_take
def vU:=@List.map_map
def vV:=@wpS_forRange
def vW:=@List.map_append
def vX:=@List.not_mem_nil
def vY:=@List.mem_of_mem_drop
def vZ:=@PySem.W.kia_one
def v7:=@List.getLast?_eq_some_getLast
def v8:=@wpAny_mono
def wa:=@Nat.lt_or_ge
def wb:=@List.length_range
def we:=@Int.le_trans
def wg:=@sizeLine_eq
def wj:=@Option.some.inj
def wm:=@Int.le_refl
def wo:=@Bool.eq_iff_iff
def wq:=@Option.map_eq_some_iff
def wt:=@List.drop_eq_nil_of_le
def wu:=@of_decide_eq_true
def wx:=@List.nodup_append
def wy:=@Nat.testBit_and
def wz:=@List.getElem?_take_of_lt
def wA:=@List.length_drop
def wB:=@MeetsSeq3.plain_eq_loop
def wC:=@List.pairwise_singleton
def wD:=@F.slot_dict_keyiterator_next
def wF:=@Nat.le_trans
def wG:=@wpAny_truthy_bool
def wH:=@wpAny_loadPart'
def wI:=@PySem.mem_of_lookup
def wJ:=@Nat.div_add_mod
def wK:=@List.mem_map_of_mem
def wL:=@List.flatten_append
def wM:=@List.getElem?_append_right
def wN:=@Array.perm_iff_toList_perm
def wO:=@List.mem_flatten
def wQ:=@List.length_cons
def wR:=@List.getElem_map
def wU:=@List.filter_append
end
namespace L2
theorem ep3{α β:Type}{A B C:α->β->Prop}{g:Prop}(h:∃x y,A x y/\B x y/\C x y)(k:∀x y,A x y->B x y->C x y->g):g:=by obtain⟨x,y,a,b,c⟩:=h;exact k x y a b c
end L2
namespace L2
open PySem PySem.Spec PyProof.Rows
noncomputable abbrev Key:=Sum Int Str
noncomputable def iV:Key->Value->Bool
 | .inl k,v=>Value.isInt k v
 | .inr x,v=>Value.isStrOf x v
noncomputable def uA(w:World):Key->Int
 | .inl k=>hashInt k
 | .inr x=>hashStr w x
theorem aW:∀{k:Key}{v:Value},iV k v=true->(∃i t,k=Sum.inl i/\v=Value.int i t)\/(∃x t,k=Sum.inr x/\v=Value.str x t)
 | .inl i,v,h=>by obtain⟨t,e⟩:=Value.isInt_shape (k:=i) (v:=v) h;exact .inl ⟨i,t,rfl,e⟩
 | .inr x,v,h=>by obtain⟨t,e⟩:=Value.isStrOf_shape (x:=x) (v:=v) h;exact .inr ⟨x,t,rfl,e⟩
theorem nH(i:Int)(t:Tok):iV (.inl i) (.int i t)=true:=by simp[iV,Value.isInt]
theorem nG(x:Str)(t:Tok):iV (.inr x) (.str x t)=true:=by simp[iV,Value.isStrOf]
theorem sr(a b:Int):decide ((Sum.inl a:Key)=Sum.inl b)=(a==b):=by
 by_cases e:a=b
 ·subst e;simp
 ·have h:¬(Sum.inl a:Key)=Sum.inl b:=fun q=>e (Sum.inl.inj q);rw[vh h];exact(beq_eq_false_iff_ne.mpr e).symm
theorem si(a b:Str):decide ((Sum.inr a:Key)=Sum.inr b)=decide (a=b):=by
 by_cases e:a=b
 ·subst e;simp
 ·have h:¬(Sum.inr a:Key)=Sum.inr b:=fun q=>e (Sum.inr.inj q);rw[vh h,vh e]
theorem sm(a:Int)(b:Str):decide ((Sum.inl a:Key)=Sum.inr b)=false:=vh (fun q=>nomatch q)
theorem sk(a:Str)(b:Int):decide ((Sum.inr a:Key)=Sum.inl b)=false:=vh (fun q=>nomatch q)
noncomputable def ba(prog:Program)(w:World):PySem.KeyKind prog w Key where
 is:=iV
 hash:=uA w
 inj:=fun v a b ha hb=>by
  rcases aW ha with⟨i,t,rfl,rfl⟩|⟨x,t,rfl,rfl⟩
  ·rcases aW hb with⟨j,u,rfl,e⟩|⟨y,u,rfl,e⟩
   ·injection e with e1 _;rw[e1]
   ·exact nomatch e
  ·rcases aW hb with⟨j,u,rfl,e⟩|⟨y,u,rfl,e⟩
   ·exact nomatch e
   ·injection e with e1 _;rw[e1]
 byValue:=fun k v h=>by
  rcases aW h with⟨i,t,rfl,rfl⟩|⟨x,t,rfl,rfl⟩<;>rfl
 pyHash:=fun hv h=>by
  rcases aW hv with⟨i,t,rfl,rfl⟩|⟨x,t,rfl,rfl⟩
  ·exact wpAny_pyHash_int h
  ·exact wpAny_pyHash_str h
 eqBool:=fun hu hv h=>by
  rcases aW hu with⟨i,t,rfl,rfl⟩|⟨x,t,rfl,rfl⟩
  ·rcases aW hv with⟨j,u,rfl,rfl⟩|⟨y,u,rfl,rfl⟩
   ·rw[sr]at h;exact wpAny_eqBool_int h
   ·rw[sm]at h;exact SeqAt.EqAt.int_str i t y u _ _ _ _ h
  ·rcases aW hv with⟨j,u,rfl,rfl⟩|⟨y,u,rfl,rfl⟩
   ·rw[sk]at h;exact SeqAt.EqAt.str_int x t j u _ _ _ _ h
   ·rw[si]at h;exact wpAny_eqBool_str h
 «strs»:=fun k x t v h=>by
  rcases aW h with⟨i,u,rfl,e⟩|⟨y,u,rfl,e⟩
  ·exact nomatch e
  ·injection e with e1 _
   subst e1
   cases v<;>rfl
theorem ki(prog:Program)(w:World)(i:Int)(t:Tok):(ba prog w).is (.inl i) (.int i t)=true:=nH i t
theorem kg(prog:Program)(w:World)(x:Str)(t:Tok):(ba prog w).is (.inr x) (.str x t)=true:=nG x t
inductive V where
 |non|bl (b:Bool)|int (i:Int)|str (x:Str)|byt (b:Array UInt8)|flt (b:UInt64)|ref (a:Addr)|ty (n:String)
 deriving DecidableEq
noncomputable def RelV:V->Value->Prop
 | .non,u=>u=Value.none
 | .bl b,u=>u=Value.bool b
 | .int i,u=>∃t,u=Value.int i t
 | .str x,u=>∃t,u=Value.str x t
 | .byt b,u=>∃t,u=Value.bytes b t
 | .flt b,u=>∃t,u=Value.float b t
 | .ref a,u=>u=Value.ref a
 | .ty n,u=>u=Value.type n
abbrev Vals:List V->List Value->Prop:=Paired RelV
theorem Vals.length{xs:List V}{us:List Value}(r:Vals xs us):xs.length=us.length:=vx r
theorem Vals.get:∀{xs:List V}{us:List Value}{i:Nat}{x:V},Vals xs us->xs[i]?=some x->∃u,us[i]?=some u/\RelV x u
 |_,_,_,_,.nil,e=>by simp at e
 |_,_,0,_,.cons r _,e=>by simp at e;subst e;exact⟨_,rfl,r⟩
 |_,_,i+1,x,.cons _ t,e=>by obtain⟨u,h1,h2⟩:=Vals.get (i:=i) (x:=x) t (by simpa using e);exact⟨u,by simpa using h1,h2⟩
theorem Vals.append{xs ys:List V}{us ws:List Value}(hI:Vals xs us):Vals ys ws->Vals (xs++ys) (us++ws):=by
 induction hI with
 |nil=>exact fun s=>s
 |cons r t ih=>exact fun s=>.cons r (ih s)
noncomputable def sM:Option V->Option Value->Prop
 |some v,some u=>RelV v u
 |none,none=>True
 |_,_=>False
def KV{κ:Type}:List (κ×V)->List (κ×Value)->Prop:=Paired fun(p:κ×V) (q:κ×Value)=>p.1=q.1/\RelV p.2 q.2
noncomputable def kV:Key->V
 | .inl i=>.int i
 | .inr x=>.str x
inductive HO where
 |lst (xs:List V)
 |tup (xs:List V)
 |dK (kvs:List (Key×V))|dT (kvs:List (List Key×V))
 |set (S:Int->Bool) (n:Nat)
 |ins (C dx:Addr) (fs:List (Str×V))
 |own (x:Addr)
 |xd (fs:List (Str×V))
 |met (f x:Addr)
 |rng (lo hi:Int)
 |frz (o:Obj) (u:HO)
 |tbl (ps:Array Value)
 |ext (φ:Heap->Prop)
noncomputable abbrev Hp:=Addr->Option HO
noncomputable def upd(H:Hp)(a:Addr)(o:HO):Hp:=fun b=>if b=a then some o else H b
theorem ab{H:Hp}{a:Addr}{o:HO}:upd H a o a=some o:=by unfold upd;rw[uM rfl]
theorem ak{H:Hp}{a b:Addr}{o:HO}(h:b≠a):upd H a o b=H b:=by unfold upd;rw[uK h]
theorem fu{H:Hp}{a:Addr}{o u:HO}:upd (upd H a o) a u=upd H a u:=by funext b;unfold upd;split<;>rfl
theorem mx{H:Hp}{a b:Addr}{o u:HO}(h:H a=some o)(h':H b=some u)(d:o≠u):a≠b:=by intro e;subst e;rw[h]at h';exact d (wj h')
theorem bH{H:Hp}{a b:Addr}{o:HO}(h:H a=some o)(h':H b=none):a≠b:=by intro e;subst e;rw[h]at h';cases h'
section
variable(P:Program)(w:World)
noncomputable def bN(H:Hp)(h:Heap)(a:Addr):HO->Prop
 | .lst xs=>xs.length<=sizeLine/\∃(its:List Value)(n:Nat),Vals xs its/\h.get? a=some {cls:=.type "list",data:=.seq its.toArray n}
 | .tup xs=>xs.length<=sizeLine/\∃its:List Value,Vals xs its/\IsTup h a its.toArray
 | .dK kvs=>kvs.length<=sizeLine/\(a==sysModules)=false/\∃vs,KV kvs vs/\h.DictOf (ba P w) a vs
 | .dT kvs=>kvs.length<=sizeLine/\(a==sysModules)=false/\∃xs:List (List Key×Addr×Value),
  Paired (fun(p:List Key×V) (q:List Key×Addr×Value)=>p.1=q.1/\H q.2.1=some (.tup (p.1.map kV))/\RelV p.2 q.2.2) kvs xs/\
  ∃o es ep,h.get? a=some o/\o.ExactDict/\o.data=.dict es ep/\es.toList=xs.map (entryOfKey (tupleKind (ba P w)))/\(xs.map (·.1)).Nodup
 | .set S n=>h.SetOf (intKind P w) a S n
 | .ins C dx fs=>H dx=some (.own a)/\fs.length<=1000/\dx≠a/\h.get? a=some (PySem.W.instObj C dx)/\
  ∃mA,h.Ns1 dx mA/\(∀f,sM (fs.lookup f) (mA f))/\PySem.Within mA (fs.map (·.1))
 | .own _=>∃o,h.get? a=some o
 | .xd fs=>∃mA,h.Ns1 a mA/\∀f,sM (fs.lookup f) (mA f)
 | .rng lo hi=>∃t u v,h.get? a=some {cls:=.type "range",data:=.fields #[.int lo t,.int hi u,.int 1 v]}
 | .frz o u=>h.get? a=some o/\bN H h a u
 | .tbl ps=>h.get? a=some {cls:=.none,data:=.fields ps}
 | .met f x=>h.get? a=some (PySem.W.methodObj (.ref f) (.ref x))
 | .ext φ=>φ h/\(∃o,h.get? a=some o)/\∀h1 h2:Heap,φ h1->(∀o,h1.get? a=some o->h2.get? a=some o)->φ h2
def HOk(H:Hp)(h:Heap):Prop:=∀a o,H a=some o->bN P w H h a o
end
section
variable{P:Program}{w:World}{H H':Hp}{h h':Heap}{a:Addr}{o:HO}
theorem bN.lt(x:bN P w H h a o):a<h.objs.size:=by
 cases o with
 |lst xs=>obtain⟨_,_,_,_,e⟩:=x;exact uU e
 |tup xs=>obtain⟨_,_,_,p⟩:=x;exact p.lt
 |dK kvs=>obtain⟨_,_,_,_,o,_,_,e,_⟩:=x;exact uU e
 |dT kvs=>obtain⟨_,_,_,_,o,_,_,e,_⟩:=x;exact uU e
 |set S n=>obtain⟨o,_,_,_,e,_⟩:=x;exact uU e
 |ins C dx fs=>obtain⟨_,_,_,e,_⟩:=x;exact uU e
 |own y=>obtain⟨_,e⟩:=x;exact uU e
 |xd fs=>obtain⟨_,⟨_,_,_,e,_⟩,_⟩:=x;exact uU e
 |rng lo hi=>obtain⟨_,_,_,e⟩:=x;exact uU e
 |frz ob u=>obtain⟨e,_⟩:=x;exact uU e
 |tbl ps=>exact uU (show h.get? a=some _ from x)
 |met f y=>exact uU (show h.get? a=some _ from x)
 |ext φ=>obtain⟨_,⟨_,e⟩,_⟩:=x;exact uU e
theorem Paired.mapP{α β:Type}{F G:α->β->Prop}{l₁:List α}{l₂:List β}(hI:Paired F l₁ l₂):(∀a b,F a b->G a b)->Paired G l₁ l₂:=by
 induction hI with
 |nil=>exact fun _=>.nil
 |cons r t ih=>exact fun f=>.cons (f _ _ r) (ih f)
theorem bN.stay(x:bN P w H h a o)(k:∀b u,(b=a\/H b=some (.own a))->h.get? b=some u->h'.get? b=some u)
  (ho:∀b,H b=some (.own a)->H' b=some (.own a)) (ht:∀b xs,H b=some (.tup xs)->H' b=some (.tup xs)):bN P w H' h' a o:=by
 induction o with
 |lst xs=>obtain⟨z,its,n,r,e⟩:=x;exact⟨z,its,n,r,k _ _ (.inl rfl) e⟩
 |tup xs=>obtain⟨z,its,r,ob,e,c⟩:=x;exact⟨z,its,r,ob,k _ _ (.inl rfl) e,c⟩
 |dK kvs=>obtain⟨z,y,vs,r,ob,es,ep,e,c⟩:=x;exact⟨z,y,vs,r,ob,es,ep,k _ _ (.inl rfl) e,c⟩
 |dT kvs=>obtain⟨z,y,xs,r,ob,es,ep,e,c⟩:=x;exact⟨z,y,xs,Paired.mapP r fun p q z=>⟨z.1,ht _ _ z.2.1,z.2.2⟩,ob,es,ep,k _ _ (.inl rfl) e,c⟩
 |set S n=>obtain⟨ob,es,ep,t,e,c⟩:=x;exact⟨ob,es,ep,t,k _ _ (.inl rfl) e,c⟩
 |ins C dx fs=>obtain⟨d,z,ne,e,mA,⟨od,es,ep,e2,c⟩,r⟩:=x;exact⟨ho _ d,z,ne,k _ _ (.inl rfl) e,mA,⟨od,es,ep,k _ _ (.inr d) e2,c⟩,r⟩
 |own y=>obtain⟨ob,e⟩:=x;exact⟨ob,k _ _ (.inl rfl) e⟩
 |xd fs=>obtain⟨mA,⟨od,es,ep,e,c⟩,r⟩:=x;exact⟨mA,⟨od,es,ep,k _ _ (.inl rfl) e,c⟩,r⟩
 |rng lo hi=>obtain⟨t,u,v,e⟩:=x;exact⟨t,u,v,k _ _ (.inl rfl) e⟩
 |frz ob u ih=>obtain⟨e,q⟩:=x;exact⟨k _ _ (.inl rfl) e,ih q⟩
 |tbl ps=>have e:h.get? a=some {cls:=.none,data:=.fields ps}:=x;show h'.get? a=some {cls:=.none,data:=.fields ps};exact k a _ (.inl rfl) e
 |met f y=>have e:h.get? a=some (PySem.W.methodObj (.ref f) (.ref y)):=x;show h'.get? a=some (PySem.W.methodObj (.ref f) (.ref y));exact k a _ (.inl rfl) e
 |ext φ=>obtain⟨p,⟨o,e⟩,st⟩:=x;exact⟨st _ _ p fun o q=>k _ _ (.inl rfl) q,⟨o,k _ _ (.inl rfl) e⟩,st⟩
theorem HOk.lt(x:HOk P w H h)(e:H a=some o):a<h.objs.size:=(x a o e).lt
theorem HOk.fresh(x:HOk P w H h)(e:h.objs.size<=a):H a=none:=by
 cases q:H a with
 |none=>rfl
 |some u=>exact absurd (uQ (x.lt q) e) (Nat.lt_irrefl _)
theorem HOk.kept(x:HOk P w H h)(k:∀b u,h.get? b=some u->h'.get? b=some u):HOk P w H h':=fun a o e=>(x a o e).stay (fun b u _ q=>k b u q) (fun _ q=>q) fun _ _ q=>q
theorem HOk.laid(x:HOk P w H h)(k:∀b u,h.get? b=some u->h'.get? b=some u)(hp:h.objs.size<=a)(new:bN P w (upd H a o) h' a o):HOk P w (upd H a o) h':=fun b u e=>by
 have hn:=x.fresh hp;by_cases hb:b=a
 ·subst hb;rw[ab]at e;cases e;exact new
 ·rw[ak hb]at e;exact(x b u e).stay (fun c v _ q=>k c v q) (fun c q=>by rw[ak (bH q hn)];exact q) fun c xs q=>by rw[ak (bH q hn)];exact q
end
def Rd(H:Hp)(a:Addr)(u:HO):Prop:=H a=some u\/∃o,H a=some (.frz o u)
theorem Rd.ok{P:Program}{w:World}{H:Hp}{h:Heap}{a:Addr}{u:HO}(r:Rd H a u)(x:HOk P w H h):bN P w H h a u:=by
 rcases r with r|⟨o,r⟩
 ·exact x a u r
 ·obtain⟨_,q⟩:=x a _ r;exact q
noncomputable def Mut:Option HO->Prop
 |some (.lst _)=>True
 |some (.dK _)=>True
 |some (.dT _)=>True
 |some (.set _ _)=>True
 |some (.ins _ _ _)=>True
 |some (.ext _)=>True
 |_=>False
section
variable{P:Program}{w:World}{H:Hp}{h h':Heap}{x e:Addr}{o':HO}
theorem HOk.write(ok:HOk P w H h)(mu:Mut (H x))(he:e=x\/H e=some (.own x))(k:∀b u,b≠e->h.get? b=some u->h'.get? b=some u)(heo:∃u,h'.get? e=some u)
  (new:bN P w (upd H x o') h' x o'):HOk P w (upd H x o') h':=fun b u q=>by
 have nown:∀c y,H c=some (.own y)->c≠x:=fun c y r z=>by subst z;rw[r]at mu;exact mu
 have ntup:∀c xs,H c=some (.tup xs)->c≠x:=fun c xs r z=>by subst z;rw[r]at mu;exact mu
 by_cases hb:b=x
 ·subst hb;rw[ab]at q;cases q;exact new
 ·rw[ak hb]at q;by_cases hbe:b=e
  ·have q':H b=some (.own x):=by
    rcases he with z|z
    ·exact absurd (hbe.trans z) hb
    ·rw[hbe];exact z
   rw[q]at q';cases q';obtain⟨v,hv⟩:=heo;exact⟨v,by rw[hbe];exact hv⟩
  ·refine(ok b u q).stay (fun c v hc r=>k c v ?_ r) (fun c r=>by rw[ak (nown c b r)];exact r) fun c xs r=>by rw[ak (ntup c xs r)];exact r
   rcases hc with rfl|hc
   ·exact hbe
   ·rintro rfl;rcases he with z|z
    ·exact nown c b hc z
    ·rw[hc]at z;cases z;exact hb rfl
end
structure Un(fs ex:List Addr)(H H':Hp)(h h':Heap):Prop where
 keep:∀b o,h.get? b=some o->H b=none->b∉fs->b∉ex->h'.get? b=some o
 slot:∀b o,h.get? b=some o->H b=none->b∈fs->b∉ex->∃sl,h'.get? b=some {o with slots:=sl}
 free:∀b o,h.get? b=some o->H b=none->b∉ex->H' b=none
 there:∀b o,h.get? b=some o->b∉ex->∃o',h'.get? b=some o'
 tups:∀b xs,H b=some (.tup xs)->H' b=some (.tup xs)
 frzs:∀b o u,H b=some (.frz o u)->H' b=some (.frz o u)
 tbls:∀b ps,H b=some (.tbl ps)->∃more,H' b=some (.tbl (ps++more))
section
variable{fs fs' ex ex':List Addr}{H H1 H2:Hp}{h h1 h2 h':Heap}{a x e:Addr}{o:HO}
theorem Un.any(u:Un fs ex H H1 h h1){b:Addr}{ob:Obj}(q:h.get? b=some ob)(n:H b=none)(hx:b∉ex):∃sl,h1.get? b=some {ob with slots:=sl}:=by
 by_cases hb:b∈fs
 ·exact u.slot b ob q n hb hx
 ·exact⟨ob.slots,u.keep b ob q n hb hx⟩
theorem Un.kept(k:∀b u,h.get? b=some u->h'.get? b=some u):Un fs ex H H h h':=
 ⟨fun b ob q _ _ _=>k b ob q,fun b ob q _ _ _=>⟨ob.slots,k b ob q⟩,fun _ _ _ n _=>n,fun b ob q _=>⟨ob,k b ob q⟩,fun _ _ q=>q,fun _ _ _ q=>q,fun _ ps q=>⟨#[],by rw[q];simp⟩⟩
theorem Un.refl:Un fs ex H H h h:=Un.kept fun _ _ q=>q
theorem Un.laid(k:∀b u,h.get? b=some u->h'.get? b=some u)(hp:h.objs.size<=a)(hn:H a=none):Un fs ex H (upd H a o) h h' where
 keep:=fun b u q _ _ _=>k b u q
 slot:=fun b u q _ _ _=>⟨u.slots,k b u q⟩
 free:=fun b u q n _=>by rw[ak (vv (uQ (uU q) hp))];exact n
 there:=fun b u q _=>⟨u,k b u q⟩
 tups:=fun b xs q=>by rw[ak (bH q hn)];exact q
 frzs:=fun b u xs q=>by rw[ak (bH q hn)];exact q
 tbls:=fun b ps q=>⟨#[],by rw[ak (bH q hn),q];simp⟩
theorem Un.write(mu:Mut (H x))(he:e=x\/H e=some (.own x))(k:∀b u,b≠e->h.get? b=some u->h'.get? b=some u)(heo:∃u,h'.get? e=some u):Un fs ex H (upd H x o) h h':=by
 have hx:∀b,H b=none->b≠x:=fun b n z=>by subst z;rw[n]at mu;exact mu
 have hb:∀b,H b=none->b≠e:=fun b n z=>by
  subst z;rcases he with r|r
  ·exact hx b n r
  ·rw[n]at r;cases r
 have hm:∀b u,H b=some u->¬Mut (some u)->b≠x:=fun b u q nm z=>by subst z;rw[q]at mu;exact nm mu
 refine⟨fun b u q n _ _=>k b u (hb b n) q,fun b u q n _ _=>⟨u.slots,k b u (hb b n) q⟩,fun b u q n _=>by rw[ak (hx b n)];exact n,fun b u q _=>?_,
  fun b xs q=>by rw[ak (hm b _ q fun z=>z)];exact q,fun b u xs q=>by rw[ak (hm b _ q fun z=>z)];exact q,fun b ps q=>⟨#[],by rw[ak (hm b _ q fun z=>z),q];simp⟩⟩
 by_cases hbe:b=e
 ·subst hbe;exact heo
 ·exact⟨u,k b u hbe q⟩
end
noncomputable def trk(h:Heap)(H:Hp):List Addr:=(List.range h.objs.size).filter fun a=>(H a).isSome
noncomputable def jB(h:Heap)(H:Hp):Heap:=PySem.W.hideAll h (trk h H)
theorem nK(h:Heap)(H:Hp):(jB h H).objs.size=h.objs.size:=PySem.W.hideAll_size _ _
theorem pj{h:Heap}{H:Hp}{b:Addr}{o:Obj}(e:h.get? b=some o)(n:H b=none):(jB h H).get? b=some o:=
 PySem.W.hideAll_get _ e fun hm=>by have q:(H b).isSome=true:=(List.mem_filter.mp hm).2;rw[n]at q;simp at q
theorem qo{h:Heap}{H:Hp}{b:Addr}{o:Obj}(e:(jB h H).get? b=some o):h.get? b=some o/\H b=none:=by
 have e':h.get? b=some o:=PySem.W.of_hideAll (trk h H) e;refine⟨e',?_⟩;cases q:H b with
 |none=>rfl
 |some x=>have hm:b∈trk h H:=List.mem_filter.mpr ⟨vD.mpr (uU e'),by simp[q]⟩;have z:(jB h H).get? b=none:=PySem.W.hideAll_none (trk h H) hm;rw[z]at e;cases e
structure Mod(K:Frag)(mg:Str->Option Value)(base:Heap):Prop where
 kin:K.In base
 glob:base.Ns mainGlobals mg
 blt:∃mb,base.Ns builtinsNs mb/\∀x:Str,x≠"__name__"->mb x=bootBuiltins x
 nolimit:base.NoLimit
structure Cx where
 prog:Program
 w:World
 K:Frag
 mg:Str->Option Value
 base:Heap
 A:Around
 N:List Str
 s₀:Shared
 H₀:Hp
 env:Env
 outer:List Env
 stack:List Env
 ex:List Addr
 fn:Str->Bool
 calm:Bool
 pn:List (Addr×Obj)
 xe:Value->Shared->Prop
noncomputable def frs(l:List Env):List Addr:=l.filterMap (·.frame)
noncomputable abbrev Cx.fs(X:Cx):List Addr:=frs X.outer
def Vis(sc:Scope)(x:Str):Prop:=sc.names.lookup x=some .local\/sc.names.lookup x=some .cell\/sc.names.lookup x=some .free
def Loc(sc:Scope)(x:Str):Prop:=sc.names.lookup x=some .local\/sc.names.lookup x=some .cell
def Look(env:Env)(h:Heap)(m:Str->Option Value)(x:Str)(u:Value):Prop:=
 (env.kindOf x=some .local/\m x=some u)\/((env.kindOf x=some .cell\/env.kindOf x=some .free)/\∃c,env.cells.lookup x=some c/\h.IsCell c (some u))
structure Cx.Ok(X:Cx):Prop where
 mod:Mod X.K X.mg X.base
 kind:X.env.scope.kind=.function
 glob:X.env.globals=mainGlobals
 blt:X.env.builtins=builtinsNs
 above:X.s₀.heap.objs.size<=X.env.locals
 inj:∀x y c,X.env.cells.lookup x=some c->X.env.cells.lookup y=some c->x=y
 has:∀x,(X.env.kindOf x=some .cell\/X.env.kindOf x=some .free)->∃c,X.env.cells.lookup x=some c
 cab:∀x c,X.fn x=true->X.env.cells.lookup x=some c->X.s₀.heap.objs.size<=c
 hd:X.calm=true->X.A.handled=none
 frames:X.A.frames=some X.stack
 stk:X.stack=X.outer\/(X.stack=X.env::X.outer/\X.env.frame=some X.env.locals)
 exf:∀b∈X.ex,b≠X.env.locals/\∀x c,X.env.cells.lookup x=some c->c≠b
 bs:∀b o,X.base.get? b=some o->X.s₀.heap.get? b=some o/\X.H₀ b=none
 bsz:X.base.objs.size<=X.s₀.heap.objs.size
 noex:∀b o,X.base.get? b=some o->b∉X.ex
 exfs:∀b∈X.ex,b∉X.fs
 funs:X.s₀.heap.FunFrames X.base X.outer
 frf:∀b∈X.fs,X.H₀ b=none
structure Inv(X:Cx)(pins:List (Addr×Obj))(σ:List (Option V))(H:Hp)(s:Shared):Prop where
 ok:X.Ok
 os:s.os=X.s₀.os
 bare:AllBare s.gens
 base:Un X.fs X.ex X.H₀ H X.s₀.heap s.heap
 loc:∃m,s.heap.Ns X.env.locals m/\∀(i:Nat)(x:Str)(v:V),X.N[i]?=some x->σ[i]?=some (some v)->Vis X.env.scope x->∃u,RelV v u/\Look X.env s.heap m x u
 cell:∀x c,X.env.cells.lookup x=some c->∃v,s.heap.IsCell c v
 free:H X.env.locals=none
 freeC:∀x c,X.env.cells.lookup x=some c->H c=none
 pin:∀p∈X.pn++pins,s.heap.get? p.1=some p.2/\H p.1=none/\p.1≠X.env.locals/\p.1∉X.fs/\∀v,p.2.data≠ .cell v
 hok:HOk X.prog X.w H s.heap
 len:σ.length=X.N.length
section
variable{X:Cx}{pins:List (Addr×Obj)}{σ:List (Option V)}{H H':Hp}{s:Shared}{h':Heap}
theorem Cx.Ok.nofr(ok:X.Ok){b:Addr}{o:Obj}(e:X.base.get? b=some o):b∉X.fs:=fun hb=>by have:=(ok.funs.mem hb).1;rw[e]at this;cases this
theorem Inv.bs(I:Inv X pins σ H s):∀b o,X.base.get? b=some o->s.heap.get? b=some o/\H b=none:=fun b o e=>⟨I.base.keep b o (I.ok.bs b o e).1 (I.ok.bs b o e).2 (I.ok.nofr e) (I.ok.noex b o e),I.base.free b o (I.ok.bs b o e).1 (I.ok.bs b o e).2 (I.ok.noex b o e)⟩
theorem Inv.bk(I:Inv X pins σ H s):∀b o,X.base.get? b=some o->s.heap.get? b=some o:=fun b o e=>(I.bs b o e).1
theorem Inv.mod(I:Inv X pins σ H s):Mod X.K X.mg X.base:=I.ok.mod
theorem Inv.kIn(I:Inv X pins σ H s):X.K.In s.heap:=I.ok.mod.kin.keeps I.bk
theorem Inv.lt(I:Inv X pins σ H s):X.env.locals<s.heap.objs.size:=let ⟨_,hn,_⟩:=I.loc;hn.lt
theorem Inv.sz(I:Inv X pins σ H s):X.s₀.heap.objs.size<=s.heap.objs.size:=wF I.ok.above (Nat.le_of_lt I.lt)
theorem Inv.nofs(I:Inv X pins σ H s){a:Addr}(h:s.heap.objs.size<=a):a∉X.fs:=fun hb=>by obtain⟨_,o,ho,_⟩:=I.ok.funs.mem hb;exact absurd (uQ (uU ho) (wF I.sz h)) (Nat.lt_irrefl _)
theorem Inv.cne(I:Inv X pins σ H s):∀x c,X.env.cells.lookup x=some c->c≠X.env.locals:=fun x c e z=>by obtain⟨v,o,ho,hd⟩:=I.cell x c e;obtain⟨m,⟨o',es,ep,ho',hd',_⟩,_⟩:=I.loc;rw[z,ho']at ho;cases ho;rw[hd']at hd;cases hd
theorem Inv.funs(I:Inv X pins σ H s):s.heap.FunFrames X.base X.outer:=by
 have all:∀(l:List Env),(∀b∈frs l,b∈X.fs)->X.s₀.heap.FunFrames X.base l->s.heap.FunFrames X.base l:=by
  intro l
  induction l with
  |nil=>intro _ _;trivial
  |cons env r ih=>intro hs hl;obtain⟨hk,⟨L,o,hf,hn,ho,hd⟩,hr⟩:=hl;have hL:L∈X.fs:=hs L (by unfold frs;rw[List.filterMap_cons,hf];exact uN);obtain⟨sl,e⟩:=I.base.slot L o ho (I.ok.frf L hL) hL fun z=>I.ok.exfs L z hL;exact⟨hk,⟨L,_,hf,hn,e,hd⟩,ih (fun b hb=>hs b (by unfold frs;rw[List.filterMap_cons,hf];exact uL _ hb)) hr⟩
 exact all X.outer (fun _ hb=>hb) I.ok.funs
theorem Inv.stack(I:Inv X pins σ H s):s.heap.FunFrames X.base X.stack:=by
 rcases I.ok.stk with e|⟨e,hf⟩
 ·rw[e];exact I.funs
 ·rw[e];obtain⟨m,hn,_⟩:=I.loc;refine .cons (by rw[I.ok.kind];decide) hf hn ?_ I.funs;exact Heap.get?_none_of_le (wF I.ok.bsz I.ok.above)
theorem Inv.stkSub(I:Inv X pins σ H s):∀b∈frs X.stack,b∈X.env.locals::X.fs:=fun b hb=>by
 rcases I.ok.stk with e|⟨e,hf⟩
 ·rw[e]at hb;exact uL _ hb
 ·rw[e]at hb;unfold frs at hb;rw[List.filterMap_cons,hf]at hb;exact hb
theorem Inv.stkFree(I:Inv X pins σ H s):∀b∈frs X.stack,H b=none:=fun b hb=>by
 rcases vn.mp (I.stkSub b hb)with e|hb
 ·rw[e];exact I.free
 ·obtain⟨_,o,ho,_⟩:=I.ok.funs.mem hb;exact I.base.free b o ho (I.ok.frf b hb) fun z=>I.ok.exfs b z hb
theorem Inv.step{g':Array GenState}{t':Nat}{d':Drawn}{ch:List Addr}(I:Inv X pins σ H s)
  (hch:∀b∈ch,(b∈X.ex\/X.s₀.heap.objs.size<=b)/\b≠X.env.locals/\(∀x c,X.env.cells.lookup x=some c->c≠b)/\∀p∈X.pn++pins,p.1≠b)
  (keep:∀b o,b≠X.env.locals->b∉X.fs->b∉ch->s.heap.get? b=some o->H b=none->h'.get? b=some o)
  (slot:∀b o,b≠X.env.locals->b∈X.fs->b∉ch->s.heap.get? b=some o->H b=none->∃sl,h'.get? b=some {o with slots:=sl}) (free:∀b o,b∉ch->s.heap.get? b=some o->H b=none->H' b=none)
  (there:∀b o,b∉ch->s.heap.get? b=some o->∃o',h'.get? b=some o')
  (tups:∀b xs,H b=some (.tup xs)->H' b=some (.tup xs)) (frzs:∀b o u,H b=some (.frz o u)->H' b=some (.frz o u)) (tbls:∀b ps,H b=some (.tbl ps)->∃more,H' b=some (.tbl (ps++more)))
  (ns:∀m,s.heap.Ns X.env.locals m->h'.Ns X.env.locals m) (hok:HOk X.prog X.w H' h') (hg:AllBare g'):
  Inv X pins σ H' {s with heap:=h',gens:=g',drawn:=d',toks:=t'}:=by
 have neL:∀b o,X.s₀.heap.get? b=some o->b≠X.env.locals:=fun b o e=>vv (uQ (uU e) I.ok.above);have neC:∀b o,X.s₀.heap.get? b=some o->b∉X.ex->b∉ch:=fun b o e hx hb=>by
  rcases (hch b hb).1 with z|z
  ·exact hx z
  ·exact absurd (uQ (uU e) z) (Nat.lt_irrefl _)
 have cellK:∀x c,X.env.cells.lookup x=some c->∀v,s.heap.IsCell c v->h'.IsCell c v:=fun x c e v ⟨o,ho,hd⟩=>by
  have nch:c∉ch:=fun z=>(hch c z).2.2.1 x c e rfl;by_cases hc:c∈X.fs
  ·obtain⟨sl,q⟩:=slot c o (I.cne x c e) hc nch ho (I.freeC x c e);exact⟨_,q,hd⟩
  ·exact⟨o,keep c o (I.cne x c e) hc nch ho (I.freeC x c e),hd⟩
 refine⟨I.ok,I.os,hg,⟨fun b o e n hb hx=>?_,fun b o e n hb hx=>?_,fun b o e n hx=>?_,fun b o e hx=>?_,fun b xs e=>tups b xs (I.base.tups b xs e),fun b o xs e=>frzs b o xs (I.base.frzs b o xs e),fun b ps e=>?_⟩,?_,fun x c e=>?_,?_,fun x c e=>?_,fun p hp=>?_,hok,I.len⟩
 ·exact keep b o (neL b o e) hb (neC b o e hx) (I.base.keep b o e n hb hx) (I.base.free b o e n hx)
 ·obtain⟨sl,e1⟩:=I.base.slot b o e n hb hx;obtain⟨sl',e2⟩:=slot b _ (neL b o e) hb (neC b o e hx) e1 (I.base.free b o e n hx);exact⟨sl',e2⟩
 ·obtain⟨o',e1⟩:=I.base.there b o e hx;exact free b o' (neC b o e hx) e1 (I.base.free b o e n hx)
 ·obtain⟨o',e1⟩:=I.base.there b o e hx;exact there b o' (neC b o e hx) e1
 ·obtain⟨m1,e1⟩:=I.base.tbls b ps e;obtain⟨m2,e2⟩:=tbls b _ e1;exact⟨m1++m2,by rw[e2,Array.append_assoc]⟩
 ·obtain⟨m,hn,hl⟩:=I.loc;refine⟨m,ns m hn,fun i x v e1 e2 e3=>?_⟩;obtain⟨u,r,l⟩:=hl i x v e1 e2 e3;refine⟨u,r,?_⟩;rcases l with l|⟨k,c,e,z⟩
  ·exact .inl l
  ·exact .inr ⟨k,c,e,cellK x c e _ z⟩
 ·obtain⟨v,z⟩:=I.cell x c e;exact⟨v,cellK x c e v z⟩
 ·obtain⟨m,⟨o,_,_,ho,_⟩,_⟩:=I.loc;exact free _ o (fun z=>(hch _ z).2.1 rfl) ho I.free
 ·obtain⟨v,o,ho,hd⟩:=I.cell x c e;exact free c o (fun z=>(hch c z).2.2.1 x c e rfl) ho (I.freeC x c e)
 ·obtain⟨e,n,ne,nf,d⟩:=I.pin p hp;have nch:p.1∉ch:=fun z=>(hch p.1 z).2.2.2 p hp rfl;exact⟨keep p.1 p.2 ne nf nch e n,free p.1 p.2 nch e n,ne,nf,d⟩
theorem Inv.un{t':Nat}(I:Inv X pins σ H s)(u:Un X.fs [] H H' s.heap h')(hok:HOk X.prog X.w H' h'):Inv X pins σ H' {s with heap:=h',toks:=t'}:=by
 obtain⟨m,⟨o,es,ep,ho,r⟩,_⟩:=id I.loc;obtain⟨sl,hL⟩:=u.any ho I.free (by simp)
 exact I.step (g':=s.gens) (d':=s.drawn) (ch:=[]) (fun _ z=>nomatch z) (fun b o _ hb _ e n=>u.keep b o e n hb (by simp)) (fun b o _ hb _ e n=>u.slot b o e n hb (by simp)) (fun b o _ e n=>u.free b o e n (by simp)) (fun b o _ e=>u.there b o e (by simp)) u.tups u.frzs u.tbls (fun m' hm=>by
  obtain⟨o',es',ep',ho',r'⟩:=hm;rw[ho]at ho';cases ho'
  exact⟨_,es',ep',hL,r'⟩) hok I.bare
theorem Inv.call{g':Array GenState}{t':Nat}{d':Drawn}{ch:List Addr}(I:Inv X pins σ H s)(u:Un (frs X.stack) ch H H' s.heap h')(hok:HOk X.prog X.w H' h')(hg:AllBare g')
  (hch:∀b∈ch,(b∈X.ex\/X.s₀.heap.objs.size<=b)/\b≠X.env.locals/\(∀x c,X.env.cells.lookup x=some c->c≠b)/\∀p∈X.pn++pins,p.1≠b):
  Inv X pins σ H' {s with heap:=h',gens:=g',drawn:=d',toks:=t'}:=by
 obtain⟨m,⟨o,es,ep,ho,r⟩,_⟩:=id I.loc;obtain⟨sl,hL⟩:=u.any ho I.free fun z=>(hch _ z).2.1 rfl
 exact I.step (ch:=ch) hch (fun b o hL hb hc e n=>u.keep b o e n (fun z=>(vn.mp (I.stkSub b z)).elim hL hb) hc) (fun b o _ _ hc e n=>u.any e n hc) (fun b o hc e n=>u.free b o e n hc) (fun b o hc e=>u.there b o e hc) u.tups u.frzs u.tbls (fun m' hm=>by
  obtain⟨o',es',ep',ho',r'⟩:=hm;rw[ho]at ho';cases ho'
  exact⟨_,es',ep',hL,r'⟩) hok hg
theorem Inv.turned{t':Nat}{it:Addr}(I:Inv X pins σ H s)(k:∀b o,b≠it->s.heap.get? b=some o->h'.get? b=some o)(hn:H it=none)(hL:it≠X.env.locals)
  (h1:it∈X.ex\/X.s₀.heap.objs.size<=it) (h2:∀x c,X.env.cells.lookup x=some c->c≠it) (h3:∀p∈X.pn++pins,p.1≠it):Inv X pins σ H {s with heap:=h',toks:=t'}:=by
 have nit:∀b u,H b=some u->b≠it:=fun b u e z=>by rw[z,hn]at e;cases e
 refine I.step (g':=s.gens) (d':=s.drawn) (ch:=[it]) (fun b hb=>?_) (fun b o _ _ hc e _=>k b o (fun z=>hc (by simp[z])) e) (fun b o _ _ hc e _=>⟨o.slots,k b o (fun z=>hc (by simp[z])) e⟩) (fun _ _ _ _ n=>n)
  (fun b o hc e=>⟨o,k b o (fun z=>hc (by simp[z])) e⟩) (fun _ _ e=>e) (fun _ _ _ e=>e) (fun b ps e=>⟨#[],by rw[e];simp⟩) (fun m hm=>?_) (fun b u e=>?_) I.bare
 ·have e:b=it:=by simpa using hb
  subst e;exact⟨h1,hL,h2,h3⟩
 ·obtain⟨o,es,ep,ho,r⟩:=hm;exact⟨o,es,ep,k _ o (Ne.symm hL) ho,r⟩
 ·refine(I.hok b u e).stay (fun c v hc q=>k c v ?_ q) (fun _ q=>q) fun _ _ q=>q;rcases hc with z|z
  ·rw[z];exact nit b u e
  ·exact nit c _ z
theorem Inv.tok(I:Inv X pins σ H s)(t:Nat):Inv X pins σ H {s with toks:=t}:=I.un (h':=s.heap) (t':=t) Un.refl I.hok
theorem Inv.kept{t':Nat}(I:Inv X pins σ H s)(k:∀b u,s.heap.get? b=some u->h'.get? b=some u):Inv X pins σ H {s with heap:=h',toks:=t'}:=I.un (Un.kept k) (I.hok.kept k)
theorem Inv.laid{a:Addr}{o:HO}{t':Nat}(I:Inv X pins σ H s)(k:∀b u,s.heap.get? b=some u->h'.get? b=some u)(hp:s.heap.objs.size<=a)(new:bN X.prog X.w (upd H a o) h' a o):
 Inv X pins σ (upd H a o) {s with heap:=h',toks:=t'}:=I.un (Un.laid k hp (I.hok.fresh hp)) (I.hok.laid k hp new)
theorem Inv.write{x e:Addr}{o:HO}{t':Nat}(I:Inv X pins σ H s)(mu:Mut (H x))(he:e=x\/H e=some (.own x))(k:∀b u,b≠e->s.heap.get? b=some u->h'.get? b=some u)(heo:∃u,h'.get? e=some u)
 (new:bN X.prog X.w (upd H x o) h' x o):Inv X pins σ (upd H x o) {s with heap:=h',toks:=t'}:=I.un (Un.write mu he k heo) (I.hok.write mu he k heo new)
theorem Inv.weak{σ':List (Option V)}(I:Inv X pins σ H s)(hl:σ'.length=σ.length)(w:∀(i:Nat) v,σ'[i]?=some (some v)->σ[i]?=some (some v)):Inv X pins σ' H s:=
 ⟨I.ok,I.os,I.bare,I.base,let ⟨m,hn,hl'⟩:=I.loc;⟨m,hn,fun i x v e1 e2 e3=>hl' i x v e1 (w i v e2) e3⟩,I.cell,I.free,I.freeC,I.pin,I.hok,hl.trans I.len⟩
theorem Inv.pins_of{pins':List (Addr×Obj)}(I:Inv X pins σ H s)(h:∀p∈pins',s.heap.get? p.1=some p.2/\H p.1=none/\p.1≠X.env.locals/\p.1∉X.fs/\∀v,p.2.data≠ .cell v):Inv X pins' σ H s:=
 ⟨I.ok,I.os,I.bare,I.base,I.loc,I.cell,I.free,I.freeC,fun p hp=>(uR.mp hp).elim (fun z=>I.pin p (vq _ z)) (h p),I.hok,I.len⟩
theorem ke{N:List Str}(hN:N.Nodup){i j:Nat}{x:Str}(a:N[i]?=some x)(b:N[j]?=some x):i=j:=by obtain⟨h1,e1⟩:=uS.mp a;obtain⟨h2,e2⟩:=uS.mp b;exact(List.getElem_inj hN).mp (e1.trans e2.symm)
theorem iH{M:Model}{A:Around}{E:Value->Shared->Prop}{i:Nat}{x:Str}{v:V}{u:Value}{Q:Unit->Shared->Prop}(I:Inv X pins σ H s)(hN:X.N.Nodup)(hi:X.N[i]?=some x)(hx:Loc X.env.scope x)(r:RelV v u)
  (h:∀s',Inv X pins (σ.set i (some v)) H s'->(∃a,Heap.SameBut a s.heap s'.heap/\(a=X.env.locals\/X.env.cells.lookup x=some a))->Q () s') (hf:X.fn x=true\/X.env.scope.names.lookup x=some .local:=by first|exact .inl rfl|exact .inr rfl|assumption):wpAny M A (storeName X.env x u) Q E s:=by
 obtain⟨m,hn,hl⟩:=id I.loc;have hcls:(X.env.scope.kind== .class||(X.env.scope.kind== .module&&X.env.locals != X.env.globals))=false:=by rw[I.ok.kind];rfl
 have hiσ:i<σ.length:=by rw[I.len];exact(uS.mp hi).1
 have cne:=I.cne;have tracked:∀{a:Addr}{h':Heap},(∃o,s.heap.get? a=some o/\H a=none)->Heap.SameBut a s.heap h'->HOk X.prog X.w H h':=fun {a h'} ha hs b ob e=>by
  obtain⟨_,_,hfree⟩:=ha;refine(I.hok b ob e).stay (fun c w' hc q=>(hs.2 c ?_).trans q) (fun _ q=>q) fun _ _ q=>q;rintro rfl;rcases hc with rfl|hc
  ·rw[hfree]at e;cases e
  ·rw[hfree]at hc;cases hc
 rcases hx with hk|hk
 ·refine wpAny_storeName_local hk hn (fun h' hn' hs=>?_) hcls;obtain⟨oL,_,_,hoL,_⟩:=id hn;refine h _ ⟨I.ok,I.os,I.bare,⟨fun b o e n hb hx=>?_,fun b o e n hb hx=>?_,I.base.free,fun b o e hx=>?_,I.base.tups,I.base.frzs,I.base.tbls⟩,⟨_,hn',fun j y v' e1 e2 e3=>?_⟩,fun y c e=>?_,I.free,I.freeC,fun p hp=>?_,tracked ⟨oL,hoL,I.free⟩ hs,by simpa using I.len⟩ ⟨_,hs,.inl rfl⟩
  ·exact(hs.2 b (vv (uQ (uU e) I.ok.above))).trans (I.base.keep b o e n hb hx)
  ·obtain⟨sl,e1⟩:=I.base.slot b o e n hb hx;exact⟨sl,(hs.2 b (vv (uQ (uU e) I.ok.above))).trans e1⟩
  ·obtain⟨o',e1⟩:=I.base.there b o e hx;exact⟨o',(hs.2 b (vv (uQ (uU e) I.ok.above))).trans e1⟩
  ·by_cases hj:j=i
   ·subst hj;rw[hi]at e1;cases e1;rw[List.getElem?_set_self hiσ]at e2;cases e2;exact⟨u,r,.inl ⟨hk,by simp⟩⟩
   ·rw[List.getElem?_set_ne (Ne.symm hj)]at e2;obtain⟨u',r',q⟩:=hl j y v' e1 e2 e3;refine⟨u',r',?_⟩;rcases q with⟨k,e⟩|⟨k,c,e,z⟩
    ·refine .inl ⟨k,?_⟩;have:y≠x:=fun e=>hj (ke hN e1 (e▸hi));simp[this,e]
    ·exact .inr ⟨k,c,e,z.sameBut hs (cne y c e)⟩
  ·obtain⟨w',z⟩:=I.cell y c e;exact⟨w',z.sameBut hs (cne y c e)⟩
  ·obtain⟨e,n,ne,nf,d⟩:=I.pin p hp;exact⟨(hs.2 p.1 ne).trans e,n,ne,nf,d⟩
 ·have hfn:X.fn x=true:=by
   rcases hf with z|z
   ·exact z
   ·rw[z]at hk;cases hk
  obtain⟨c,hc⟩:=I.ok.has x (.inl hk);obtain⟨w',z⟩:=I.cell x c hc;refine wpAny_storeName_cell I.ok.kind hk hc z (fun h' hc' hs=>?_);obtain⟨oc,hoc,hocd⟩:=id z;refine h {s with heap:=h'} ⟨I.ok,I.os,I.bare,⟨fun b o e n hb hx=>?_,fun b o e n hb hx=>?_,I.base.free,fun b o e hx=>?_,I.base.tups,I.base.frzs,I.base.tbls⟩,⟨m,hn.sameBut hs (Ne.symm (cne x c hc)),fun j y v' e1 e2 e3=>?_⟩,fun y c' e=>?_,I.free,I.freeC,fun p hp=>?_,tracked ⟨oc,hoc,I.freeC x c hc⟩ hs,by simpa using I.len⟩ ⟨c,hs,.inr hc⟩
  ·exact(hs.2 b (vv (uQ (uU e) (I.ok.cab x c hfn hc)))).trans (I.base.keep b o e n hb hx)
  ·obtain⟨sl,e1⟩:=I.base.slot b o e n hb hx;exact⟨sl,(hs.2 b (vv (uQ (uU e) (I.ok.cab x c hfn hc)))).trans e1⟩
  ·obtain⟨o',e1⟩:=I.base.there b o e hx;exact⟨o',(hs.2 b (vv (uQ (uU e) (I.ok.cab x c hfn hc)))).trans e1⟩
  ·by_cases hj:j=i
   ·subst hj;rw[hi]at e1;cases e1;rw[List.getElem?_set_self hiσ]at e2;cases e2;exact⟨u,r,.inr ⟨.inl hk,c,hc,hc'⟩⟩
   ·rw[List.getElem?_set_ne (Ne.symm hj)]at e2;obtain⟨u',r',q⟩:=hl j y v' e1 e2 e3;refine⟨u',r',?_⟩;rcases q with q|⟨k,c',e,z'⟩
    ·exact .inl q
    ·refine .inr ⟨k,c',e,z'.sameBut hs ?_⟩;rintro rfl;exact hj (ke hN e1 (I.ok.inj _ _ _ e hc▸hi))
  ·by_cases hcc:c'=c
   ·subst hcc;exact⟨_,hc'⟩
   ·obtain⟨w2,z2⟩:=I.cell y c' e;exact⟨w2,z2.sameBut hs hcc⟩
  ·obtain⟨e,n,ne,nf,d⟩:=I.pin p hp;refine⟨(hs.2 p.1 ?_).trans e,n,ne,nf,d⟩;intro q;rw[q,hoc]at e;have q':oc=p.2:=wj e;exact d w' (by rw[<-q'];exact hocd)
theorem jT{M:Model}{A:Around}{E:Value->Shared->Prop}{i:Nat}{x:Str}{v:V}{u:Value}{Q:Unit->Shared->Prop}(I:Inv X pins σ H s)(hN:X.N.Nodup)(hi:X.N[i]?=some x)(hx:Loc X.env.scope x)(r:RelV v u)
  (h:∀s',Inv X pins (σ.set i (some v)) H s'->Q () s') (hf:X.fn x=true\/X.env.scope.names.lookup x=some .local:=by first|exact .inl rfl|exact .inr rfl|assumption):wpAny M A (storeName X.env x u) Q E s:=
 iH I hN hi hx r (fun s' I' _=>h s' I') hf
theorem Inv.call'{s':Shared}{ch:List Addr}(I:Inv X pins σ H s)(ho:s'.os=s.os)(u:Un (frs X.stack) ch H H' s.heap s'.heap)(hok:HOk X.prog X.w H' s'.heap)(hg:AllBare s'.gens)
  (hch:∀b∈ch,(b∈X.ex\/X.s₀.heap.objs.size<=b)/\b≠X.env.locals/\(∀x c,X.env.cells.lookup x=some c->c≠b)/\∀p∈X.pn++pins,p.1≠b):Inv X pins σ H' s':=by
 obtain⟨h',g',d',t',o'⟩:=s';have e:o'=s.os:=ho;subst e;exact I.call (g':=g') (t':=t') (d':=d') u hok hg hch
end
noncomputable abbrev XK:=Value->Option Addr->Hp->Prop
noncomputable abbrev St:=List (Option V)
noncomputable abbrev VK:=V->Hp->Prop
noncomputable abbrev TE:=St->Hp->VK->Prop
noncomputable abbrev TT:=St->Hp->(Bool->Hp->Prop)->Prop
noncomputable abbrev TA:=St->Hp->(List V->Hp->Prop)->Prop
structure Ends where
 nx:St->Hp->Prop
 rt:VK
 bk:St->Hp->Prop:=fun _ _=>False
 ct:St->Hp->Prop:=fun _ _=>False
noncomputable abbrev TS:=Ends->St->Hp->Prop
def EP(X:Cx)(pins:List (Addr×Obj))(σ:St)(Q:VK)(u:Value)(s':Shared):Prop:=∃v H',Inv X pins σ H' s'/\RelV v u/\Q v H'
def TP(X:Cx)(pins:List (Addr×Obj))(σ:St)(Q:Bool->Hp->Prop)(b:Bool)(s':Shared):Prop:=∃H',Inv X pins σ H' s'/\Q b H'
def AP(X:Cx)(pins:List (Addr×Obj))(σ:St)(Q:List V->Hp->Prop)(us:List Value)(s':Shared):Prop:=∃vs H',Inv X pins σ H' s'/\Vals vs us/\Q vs H'
def SP(X:Cx)(pins:List (Addr×Obj))(D:Ends)(f:Flow)(s':Shared):Prop:=
 match f with
 | .next=>∃σ' H',Inv X pins σ' H' s'/\D.nx σ' H'
 | .brk=>∃σ' H',Inv X pins σ' H' s'/\D.bk σ' H'
 | .cont=>∃σ' H',Inv X pins σ' H' s'/\D.ct σ' H'
 | .ret u=>∃v σ' H',Inv X pins σ' H' s'/\RelV v u/\D.rt v H'
def PE(X:Cx)(e:Expr)(t:TE):Prop:=
 ∀(pins:List (Addr×Obj))(s:Shared)(σ:St)(H:Hp)(Q:VK),Inv X pins σ H s->t σ H Q->wpAny (model X.prog X.w) X.A (eval e X.env) (EP X pins σ Q) X.xe s
def PT(X:Cx)(e:Expr)(t:TT):Prop:=
 ∀(pins:List (Addr×Obj))(s:Shared)(σ:St)(H:Hp)(Q:Bool->Hp->Prop),Inv X pins σ H s->t σ H Q->wpAny (model X.prog X.w) X.A (isTrue e X.env (eval e X.env)) (TP X pins σ Q) X.xe s
def PW(X:Cx)(e:Expr)(t:TT):Prop:=
 ∀(whole:Sem Value)(pins:List (Addr×Obj))(s:Shared)(σ:St)(H:Hp)(Q:Bool->Hp->Prop),Inv X pins σ H s->t σ H Q->wpAny (model X.prog X.w) X.A (isTrue e X.env whole) (TP X pins σ Q) X.xe s
theorem PW.pt{X:Cx}{e:Expr}{t:TT}(h:PW X e t):PT X e t:=h _
def PA(X:Cx)(es:List Expr)(t:TA):Prop:=
 ∀(pos:Pos)(pins:List (Addr×Obj))(s:Shared)(σ:St)(H:Hp)(Q:List V->Hp->Prop),Inv X pins σ H s->t σ H Q->wpAny (model X.prog X.w) X.A (spliced (backTo pos (starEach es X.env))) (AP X pins σ Q) X.xe s
def PS(X:Cx)(st:Stmt)(t:TS):Prop:=
 ∀(pins:List (Addr×Obj))(s:Shared)(σ:St)(H:Hp)(D:Ends),Inv X pins σ H s->t D σ H->wpAny (model X.prog X.w) X.A (exec st X.env) (SP X pins D) X.xe s
def PSs(X:Cx)(st:List Stmt)(t:TS):Prop:=
 ∀(pins:List (Addr×Obj))(s:Shared)(σ:St)(H:Hp)(D:Ends),Inv X pins σ H s->t D σ H->wpAny (model X.prog X.w) X.A (execs st X.env) (SP X pins D) X.xe s
theorem thn{α:Type}{t:Sem α}{Q Q':α->Shared->Prop}{M:Model}{A:Around}{E:Value->Shared->Prop}{s:Shared}(h:wpAny M A t Q E s)(hQ:∀a s,Q a s->Q' a s):wpAny M A t Q' E s:=v8 h hQ fun _ _ x=>x
section
variable{X:Cx}
def sT(i:Nat):TE:=fun σ H Q=>∃v,σ[i]?=some (some v)/\Q v H
def tC(v:V):TE:=fun _ H Q=>Q v H
theorem rP{i:Nat}{x:Str}{pos:Pos}(hN:X.N[i]?=some x)(hv:Vis X.env.scope x)(hd:(x==("__debug__":Str))=false:=by decide)(hcd:(x==("__classdict__":Str))=false:=by decide):PE X (.Name x pos) (sT i):=by
 intro pins s σ H Q I h;obtain⟨v,e,h⟩:=h;obtain⟨m,hn,hl⟩:=I.loc;obtain⟨u,r,l⟩:=hl i x v hN e hv;have fin:EP X pins σ Q u s:=⟨v,H,I,r,h⟩;rcases l with⟨hk,hm⟩|⟨hk,c,hc,hcell⟩
 ·exact wpAny_Name (wpAny_loadName_local I.ok.kind hk hn hm fin) hd
 ·rcases hk with hk|hk
  ·exact wpAny_Name (wpAny_loadName_cell I.ok.kind hk hc hcell fin) hd
  ·exact wpAny_Name (wpAny_loadName_free I.ok.kind hk hc hcell fin hcd) hd
theorem ae{i j pos}:PE X (.Constant (.int i) j pos) (tC (.int i)):=fun _ _ _ H _ I h=>wpAny_Constant_int ⟨.int i,H,I.tok _,⟨_,rfl⟩,h⟩
theorem dZ{b j pos}:PE X (.Constant (.bool b) j pos) (tC (.bl b)):=fun _ _ _ H _ I h=>Constant_bool ⟨.bl b,H,I,rfl,h⟩
def Gl(X:Cx)(x:Str):Prop:=X.env.kindOf x=some .globalImplicit
theorem qF{E:Value->Shared->Prop}{pins:List (Addr×Obj)}{s:Shared}{σ:St}{H:Hp}{x:Str}{u:Value}{pos:Pos}{Q:Value->Shared->Prop}(I:Inv X pins σ H s)(hg:Gl X x)(hm:X.mg x=some u)(h:Q u s)
  (hd:(x==("__debug__":Str))=false:=by decide):wpAny (model X.prog X.w) X.A (eval (.Name x pos) X.env) Q E s:=
 Calls.Name_function_global I.ok.kind hg (Calls.loadGlobal_global (by rw[I.ok.glob];exact I.mod.glob.keeps I.bk) hm h) hd
theorem gZ{E:Value->Shared->Prop}{pins:List (Addr×Obj)}{s:Shared}{σ:St}{H:Hp}{x:Str}{u:Value}{pos:Pos}{Q:Value->Shared->Prop}(I:Inv X pins σ H s)(hg:Gl X x)(hm:X.mg x=none)(hv:bootBuiltins x=some u)(h:Q u s)
  (hn:x≠"__name__":=by decide) (hd:(x==("__debug__":Str))=false:=by decide):wpAny (model X.prog X.w) X.A (eval (.Name x pos) X.env) Q E s:=by
 obtain⟨mb,h1,h2⟩:=I.mod.blt;exact Calls.Name_function_global I.ok.kind hg (Calls.loadGlobal_builtin (by rw[I.ok.glob];exact I.mod.glob.keeps I.bk) hm (by rw[I.ok.blt];exact h1.keeps I.bk) ((h2 x hn).trans hv) h) hd
theorem fG{x:Str}{v:V}{u:Value}{pos:Pos}(hg:Gl X x)(hm:X.mg x=none)(hv:bootBuiltins x=some u)(r:RelV v u)(hn:x≠"__name__":=by decide)(hd:(x==("__debug__":Str))=false:=by decide):PE X (.Name x pos) (tC v):=
 fun _ _ _ H _ I h=>gZ I hg hm hv ⟨v,H,I,r,h⟩ hn hd
variable{a b:Expr}{ta tb:TE}{pos:Pos}
def PC(X:Cx)(op:CmpOp)(a b:Expr)(t:TE):Prop:=
 ∀(pins:List (Addr×Obj))(s:Shared)(σ:St)(H:Hp)(Q:VK),Inv X pins σ H s->t σ H Q->
  wpAny (model X.prog X.w) X.A (eval a X.env) (fun v s₁=>wpAny (model X.prog X.w) X.A (eval b X.env) (fun u s₂=>wpAny (model X.prog X.w) X.A (compareOp op v u) (EP X pins σ Q) X.xe s₂) X.xe s₁) X.xe s
def tB(t:TE):TT:=fun σ H Q=>t σ H fun x H1=>∃c,x=.bl c/\Q c H1
theorem jl{op:CmpOp}{t:TE}(h:PC X op a b t)(h1:behindInMarks op b=false:=by first|exact nobehind _ (by decide) (by decide)|rfl):PT X (.Compare a [op] [b] pos) (tB t):=by intro pins s σ H Q I hw;refine wpAny_isTrue_Compare1 (thn (h pins s σ H _ I hw) fun v s1 h1=>thn h1 fun u s2 h2=>thn h2 fun c s3 hPz=>?_) h1;obtain⟨x,H1,I1,r1,q1⟩:=hPz;obtain⟨d,rfl,q⟩:=q1;cases r1;exact wG ⟨H1,I1,q⟩
theorem cn{e:Expr}{t:TE}(h:PE X e t)(he:∀whole,isTrue e X.env whole=(do let v <-whole;standAt e.pos;holding [v] (truthy v)):=by intro _;rfl):PT X e (tB t):=by intro pins s σ H Q I hw;refine isTrue_plain (thn (h pins s σ H _ I hw) fun v s1 hPz=>?_) (he _);obtain⟨x,H1,I1,r1,q1⟩:=hPz;obtain⟨d,rfl,q⟩:=q1;cases r1;exact wG ⟨H1,I1,q⟩
variable{tA tB':TT}{rest:List Expr}
def ur(t u:TT):TT:=fun σ H Q=>t σ H fun c H1=>if c=true then u σ H1 Q else Q false H1
def tOr(t u:TT):TT:=fun σ H Q=>t σ H fun c H1=>if c=true then Q true H1 else u σ H1 Q
def ui(t:TT):TT:=fun σ H Q=>t σ H fun c H1=>Q (!c) H1
theorem qe(ha:PT X a tA):PW X (.BoolOp .And [a] pos) tA:=by
 intro wh pins s σ H Q I h;refine isTrue_and (thn (ha pins s σ H Q I h) fun c s1 e=>?_);cases c with
 |true=>exact isTrue_and_nil e
 |false=>exact e
theorem kT(ha:PT X a tA):PW X (.BoolOp .Or [a] pos) tA:=by
 intro wh pins s σ H Q I h;refine isTrue_or (thn (ha pins s σ H Q I h) fun c s1 e=>?_);cases c with
 |false=>exact isTrue_or_nil e
 |true=>exact e
theorem rL(ha:PT X a tA)(hb:PW X (.BoolOp .And (b::rest) pos) tB'):PW X (.BoolOp .And (a::b::rest) pos) (ur tA tB'):=by
 intro wh pins s σ H Q I h;refine isTrue_and (thn (ha pins s σ H _ I h) fun c s1 hPz=>?_);obtain⟨H1,I1,q1⟩:=hPz;cases c with
 |true=>exact hb wh pins s1 σ H1 Q I1 q1
 |false=>exact⟨H1,I1,q1⟩
theorem jX(ha:PT X a tA)(hb:PW X (.BoolOp .Or (b::rest) pos) tB'):PW X (.BoolOp .Or (a::b::rest) pos) (tOr tA tB'):=by
 intro wh pins s σ H Q I h;refine isTrue_or (thn (ha pins s σ H _ I h) fun c s1 hPz=>?_);obtain⟨H1,I1,q1⟩:=hPz;cases c with
 |true=>exact⟨H1,I1,q1⟩
 |false=>exact hb wh pins s1 σ H1 Q I1 q1
theorem dM(ha:PT X a tA):PT X (.UnaryOp .Not a pos) (ui tA):=by intro pins s σ H Q I h;exact isTrue_not (ha pins s σ H (fun c H1=>Q (!c) H1) I h)
def tj(ta tb:TE):TE:=fun σ H Q=>ta σ H fun x H1=>∃c,x=.bl c/\if c=true then tb σ H1 Q else Q (.bl false) H1
def uh(ta tb:TE):TE:=fun σ H Q=>ta σ H fun x H1=>∃c,x=.bl c/\if c=true then Q (.bl true) H1 else tb σ H1 Q
def sY(ta:TE):TE:=fun σ H Q=>ta σ H fun x H1=>∃c,x=.bl c/\Q (.bl (!c)) H1
theorem gR{op}{t:TE}(h:PE X a t):PE X (.BoolOp op [a] pos) t:=fun pins s σ H Q I hw=>BoolOp_one (h pins s σ H Q I hw)
theorem kU(ha:PE X a ta)(hb:PE X (.BoolOp .And (b::rest) pos) tb):PE X (.BoolOp .And (a::b::rest) pos) (tj ta tb):=by
 intro pins s σ H Q I h;refine BoolOp_and (thn (ha pins s σ H _ I h) fun v s1 hPz=>?_);obtain⟨x,H1,I1,r1,q1⟩:=hPz;obtain⟨c,rfl,q1⟩:=q1;cases r1;refine wG ?_;cases c with
 |true=>exact hb pins s1 σ H1 Q I1 q1
 |false=>exact⟨.bl false,H1,I1,rfl,q1⟩
theorem rn(ha:PE X a ta)(hb:PE X (.BoolOp .Or (b::rest) pos) tb):PE X (.BoolOp .Or (a::b::rest) pos) (uh ta tb):=by
 intro pins s σ H Q I h;refine BoolOp_or (thn (ha pins s σ H _ I h) fun v s1 hPz=>?_);obtain⟨x,H1,I1,r1,q1⟩:=hPz;obtain⟨c,rfl,q1⟩:=q1;cases r1;refine wG ?_;cases c with
 |false=>exact hb pins s1 σ H1 Q I1 q1
 |true=>exact⟨.bl true,H1,I1,rfl,q1⟩
theorem rQ(ha:PE X a ta):PE X (.UnaryOp .Not a pos) (sY ta):=by intro pins s σ H Q I h;refine UnaryOp_ (thn (ha pins s σ H _ I h) fun v s1 hPz=>?_);obtain⟨x,H1,I1,r1,q1⟩:=hPz;obtain⟨c,rfl,q1⟩:=q1;cases r1;exact not_of (wG ⟨.bl (!c),H1,I1,rfl,q1⟩)
end
def SqL(K:Frag)(H:Hp)(a:Addr)(xs:List V):Prop:=
 Rd H a (.lst xs)\/
  ∃(o:Obj)(its:Array Value)(n:Nat),K.lookup a=some o/\o.cls=.type "list"/\o.dict=none/\o.data=.seq its n/\its.size<=sizeLine/\Vals xs its.toList
def SqT(K:Frag)(H:Hp)(a:Addr)(xs:List V):Prop:=
 Rd H a (.tup xs)\/
  ∃(o:Obj)(its:Array Value)(n:Nat),K.lookup a=some o/\o.cls=.type "tuple"/\o.data=.seq its n/\its.size<=sizeLine/\Vals xs its.toList
noncomputable def uC:Value->Option V
 | .none=>some .non
 | .bool b=>some (.bl b)
 | .int i _=>some (.int i)
 | .str x _=>some (.str x)
 | .bytes b _=>some (.byt b)
 | .float b _=>some (.flt b)
 | .ref a=>some (.ref a)
 | .type n=>some (.ty n)
 |_=>none
theorem RelV.abs{x:V}{u:Value}(r:RelV x u):uC u=some x:=by
 cases x with
 |non=>cases r;rfl
 |bl _=>cases r;rfl
 |int _=>obtain⟨t,rfl⟩:=r;rfl
 |str _=>obtain⟨t,rfl⟩:=r;rfl
 |byt _=>obtain⟨t,rfl⟩:=r;rfl
 |flt _=>obtain⟨t,rfl⟩:=r;rfl
 |ref _=>cases r;rfl
 |ty _=>cases r;rfl
theorem RelV.inj{x y:V}{u:Value}(r:RelV x u)(q:RelV y u):x=y:=wj (r.abs.symm.trans q.abs)
theorem Vals.inj:∀{xs ys:List V}{us:List Value},Vals xs us->Vals ys us->xs=ys
 |_,_,_,.nil,.nil=>rfl
 |_,_,_,.cons r t,.cons r' t'=>by rw[r.inj r',Vals.inj t t']
section
variable{X:Cx}{pins:List (Addr×Obj)}{σ:St}{H:Hp}{s:Shared}{a:Addr}{xs ys:List V}
theorem SqL.of{K:Frag}(h:H a=some (.lst xs)):SqL K H a xs:=.inl (.inl h)
theorem SqT.of{K:Frag}(h:H a=some (.tup xs)):SqT K H a xs:=.inl (.inl h)
theorem Inv.list(I:Inv X pins σ H s)(h:SqL X.K H a xs):∃its:List Value,Vals xs its/\PlainL s.heap a its.toArray/\xs.length<=sizeLine:=by
 rcases h with h|⟨o,its,n,hk,hc,hd,hs,hz,r⟩
 ·obtain⟨z,its,n,r,e⟩:=h.ok I.hok;exact⟨its,r,⟨_,n,e,rfl,rfl,rfl⟩,z⟩
 ·refine⟨its.toList,r,⟨o,n,I.kIn a o hk,hc,hd,by simpa using hs⟩,?_⟩;have e:=r.length;simp only[uP]at e;omega
theorem Inv.tuple(I:Inv X pins σ H s)(h:SqT X.K H a xs):∃its:List Value,Vals xs its/\IsTup s.heap a its.toArray/\xs.length<=sizeLine:=by
 rcases h with h|⟨o,its,n,hk,hc,hs,hz,r⟩
 ·obtain⟨z,its,r,p⟩:=h.ok I.hok;exact⟨its,r,p,z⟩
 ·refine⟨its.toList,r,⟨o,I.kIn a o hk,hc,n,by simpa using hs⟩,?_⟩;have e:=r.length;simp only[uP]at e;omega
theorem Inv.list_inj(I:Inv X pins σ H s)(h:SqL X.K H a xs)(h':SqL X.K H a ys):xs=ys:=by
 obtain⟨its,r,⟨o,n,e,_,_,d⟩,_⟩:=I.list h;obtain⟨its',r',⟨o',n',e',_,_,d'⟩,_⟩:=I.list h';rw[e]at e';cases e';rw[d]at d';injection d' with d1 _;have:its=its':=by simpa using congrArg Array.toList d1
 subst this;exact r.inj r'
theorem Inv.tuple_inj(I:Inv X pins σ H s)(h:SqT X.K H a xs)(h':SqT X.K H a ys):xs=ys:=by
 obtain⟨its,r,⟨o,e,_,n,d⟩,_⟩:=I.tuple h;obtain⟨its',r',⟨o',e',_,n',d'⟩,_⟩:=I.tuple h';rw[e]at e';cases e';rw[d]at d';injection d' with d1 _;have:its=its':=by simpa using congrArg Array.toList d1
 subst this;exact r.inj r'
end
noncomputable abbrev Cx.wish(X:Cx)(E:Value->Shared->Prop):Cx:={X with xe:=E}
noncomputable abbrev Cx.nox(X:Cx):Cx:=X.wish fun _ _=>False
theorem Cx.Ok.wish{X:Cx}(ok:X.Ok)(E:Value->Shared->Prop):(X.wish E).Ok:=
 ⟨ok.mod,ok.kind,ok.glob,ok.blt,ok.above,ok.inj,ok.has,ok.cab,ok.hd,ok.frames,ok.stk,ok.exf,ok.bs,ok.bsz,ok.noex,ok.exfs,ok.funs,ok.frf⟩
theorem Cx.Ok.unwish{X:Cx}{E:Value->Shared->Prop}(ok:(X.wish E).Ok):X.Ok:=
 ⟨ok.mod,ok.kind,ok.glob,ok.blt,ok.above,ok.inj,ok.has,ok.cab,ok.hd,ok.frames,ok.stk,ok.exf,ok.bs,ok.bsz,ok.noex,ok.exfs,ok.funs,ok.frf⟩
section
variable{X:Cx}{pins:List (Addr×Obj)}{σ:St}{H:Hp}{s:Shared}{E:Value->Shared->Prop}
theorem Inv.wish(I:Inv X pins σ H s)(E:Value->Shared->Prop):Inv (X.wish E) pins σ H s:=⟨I.ok.wish E,I.os,I.bare,I.base,I.loc,I.cell,I.free,I.freeC,I.pin,I.hok,I.len⟩
theorem Inv.unwish(I:Inv (X.wish E) pins σ H s):Inv X pins σ H s:=⟨I.ok.unwish,I.os,I.bare,I.base,I.loc,I.cell,I.free,I.freeC,I.pin,I.hok,I.len⟩
theorem SP.unwish{D:Ends}{f:Flow}{s':Shared}(h:SP (X.wish E) pins D f s'):SP X pins D f s':=by
 cases f with
 |next=>obtain⟨σ',H',I,q⟩:=h;exact⟨σ',H',I.unwish,q⟩
 |brk=>obtain⟨σ',H',I,q⟩:=h;exact⟨σ',H',I.unwish,q⟩
 |cont=>obtain⟨σ',H',I,q⟩:=h;exact⟨σ',H',I.unwish,q⟩
 |ret u=>obtain⟨v,σ',H',I,r,q⟩:=h;exact⟨v,σ',H',I.unwish,r,q⟩
theorem PSs.nox{st:List Stmt}{t:TS}(h:PSs X.nox st t):PSs X st t:=fun pins s σ H D I hw=>v8 (h pins s σ H D (I.wish _) hw) (fun _ _ q=>q.unwish) fun _ _ z=>False.elim z
end
section
variable{X:Cx}{st:Stmt}{rest:List Stmt}{t u:TS}{e:Expr}{te:TE}{pos:Pos}
def sZ:TS:=fun D σ H=>D.nx σ H
def uf(t u:TS):TS:=fun D σ H=>t {D with nx:=u D} σ H
theorem aF:PSs X [] sZ:=fun _ _ σ H _ I h=>wpAny_execs_nil ⟨σ,H,I,h⟩
theorem ah(h1:PS X st t)(h2:PSs X rest u):PSs X (st::rest) (uf t u):=by
 intro pins s σ H D I h;refine wpAny_execs_cons (thn (h1 pins s σ H {D with nx:=u D} I h) fun f s1 q=>?_);cases f with
 |next=>obtain⟨σ',H',I',q⟩:=q;exact h2 pins s1 σ' H' D I' q
 |ret v=>exact q
 |brk=>exact q
 |cont=>exact q
theorem ai(h1:PS X st t):PSs X [st] t:=by
 intro pins s σ H D I h;refine wpAny_execs_cons (thn (h1 pins s σ H D I h) fun f s1 q=>?_);cases f with
 |next=>exact wpAny_execs_nil q
 |ret v=>exact q
 |brk=>exact q
 |cont=>exact q
theorem Inv.quiet{pins:List (Addr×Obj)}{σ:St}{H:Hp}{s:Shared}(I:Inv X pins σ H s):interactive X.env=false:=by simp[interactive,I.ok.kind]
def tf(te:TE):TS:=fun D σ H=>te σ H fun _ H1=>D.nx σ H1
theorem cA(he:PE X e te)(hs:swapsWith e none pos.line X.env=pure false:=by rfl):PS X (.Expr e pos) (tf te):=by intro pins s σ H D I h;exact wpAny_Expr_any (thn (he pins s σ H _ I h) fun v s1 hPz=>L2.ep3 hPz fun x H1 I1 r1 q1=>⟨σ,H1,I1,q1⟩) I.quiet hs
def ug(te:TE):TS:=fun D σ H=>te σ H D.rt
theorem aC(he:PE X e te):PS X (.Return (some e) pos) (ug te):=by intro pins s σ H D I h;exact wpAny_Return_some (thn (he pins s σ H _ I h) fun v s1 hPz=>L2.ep3 hPz fun x H1 I1 r1 q1=>⟨x,σ,H1,I1,r1,q1⟩)
def um(c:TT)(t u:TS):TS:=fun D σ H=>c σ H fun b H1=>if b=true then t D σ H1 else u D σ H1
theorem br{c:Expr}{a b:List Stmt}{tc:TT}(hc:PT X c tc)(ha:PSs X a t)(hb:PSs X b u):PS X (.If c a b pos) (um tc t u):=by
 intro pins s σ H D I h;refine wpAny_If (thn (hc pins s σ H _ I h) fun d s1 hPz=>?_);obtain⟨H1,I1,q1⟩:=hPz;cases d with
 |true=>exact ha pins s1 σ H1 D I1 q1
 |false=>exact hb pins s1 σ H1 D I1 q1
end
noncomputable abbrev TG:=V->St->Hp->(St->Hp->Prop)->Prop
noncomputable abbrev TGs:=List V->St->Hp->(St->Hp->Prop)->Prop
def PG(X:Cx)(target:Expr)(t:TG):Prop:=
 ∀(pins:List (Addr×Obj))(s:Shared)(σ:St)(H:Hp)(v:V)(u:Value)(Q:St->Hp->Prop),Inv X pins σ H s->RelV v u->t v σ H Q->
  wpAny (model X.prog X.w) X.A (assign target X.env u) (fun _ s'=>∃σ' H',Inv X pins σ' H' s'/\Q σ' H') X.xe s
def PGs(X:Cx)(ts:List Expr)(t:TGs):Prop:=
 ∀(pins:List (Addr×Obj))(s:Shared)(σ:St)(H:Hp)(vs:List V)(us:List Value)(Q:St->Hp->Prop),Inv X pins σ H s->Vals vs us->t vs σ H Q->
  wpAny (model X.prog X.w) X.A (assignInOrder ((assignEach ts X.env).map (·.2)) us) (fun _ s'=>∃σ' H',Inv X pins σ' H' s'/\Q σ' H') X.xe s
section
variable{X:Cx}{pos:Pos}
def fh(i:Nat):TG:=fun v σ H Q=>Q (σ.set i (some v)) H
theorem aN{i:Nat}{x:Str}(hN:X.N.Nodup)(hi:X.N[i]?=some x)(hx:Loc X.env.scope x)(hf:X.fn x=true\/X.env.scope.names.lookup x=some .local:=by first|exact .inl rfl|exact .inr rfl|assumption):PG X (.Name x pos) (fh i):=by intro pins s σ H v u Q I r h;exact wpAny_assign_Name (jT I hN hi hx r (fun s' I'=>⟨_,H,I',h⟩) hf)
def sD:TGs:=fun vs σ H Q=>vs=[]/\Q σ H
def kA(t:TG)(u:TGs):TGs:=fun vs σ H Q=>∃v r,vs=v::r/\t v σ H fun σ' H'=>u r σ' H' Q
theorem qi:PGs X [] sD:=by intro pins s σ H vs us Q I r h;obtain⟨e,h⟩:=h;subst e;cases r;exact assignInOrder_nil ⟨σ,H,I,h⟩
theorem j3{e:Expr}{es:List Expr}{t:TG}{u:TGs}(h1:PG X e t)(h2:PGs X es u)
  (hs:(assignEach (e::es) X.env).map (·.2)=assign e X.env::(assignEach es X.env).map (·.2):=by rfl):PGs X (e::es) (kA t u):=by
 intro pins s σ H vs us Q I r h;obtain⟨v,vr,e1,h⟩:=h;subst e1;cases r with
 |cons r rr=>rw[hs];refine assignInOrder_cons (thn (h1 pins s σ H _ _ _ I r h) fun _ s1 hPz=>?_);obtain⟨σ1,H1,I1,q1⟩:=hPz;exact h2 pins s1 σ1 H1 _ _ Q I1 rr q1
def qN(K:Frag)(n:Nat)(t:TGs):TG:=fun v σ H Q=>∃a xs,v=.ref a/\SqT K H a xs/\xs.length=n/\t xs σ H Q
theorem rO{es:List Expr}{k:Nat}{t:TGs}{n:Nat}(hc:X.calm=true)(h:PGs X es t)
  (hn:(assignEach es X.env).length=n:=by rfl) (hst:(assignEach es X.env).findIdx? (·.1)=none:=by rfl):PG X (.Tuple es k pos) (qN X.K n t):=by
 intro pins s σ H v u Q I r hw;obtain⟨a,xs,e1,hq,hl,hw⟩:=hw;subst e1;cases r;obtain⟨its,rv,ht,hz⟩:=I.tuple hq;refine assign_Tuple_tuple (I.ok.hd hc) ht (by simp[hn,<-hl,rv.length]) hst fun h' hx=>?_;have I1:Inv X pins σ H {s with heap:=h'}:=I.kept (t':=s.toks) fun b o e=>hx b o (vv (uU e)) e;exact h pins _ σ H xs _ Q I1 (by simpa using rv) hw
def ti(te:TE)(g:TG):TS:=fun D σ H=>te σ H fun x H1=>g x σ H1 D.nx
theorem ao{i:Nat}{x:Str}{e:Expr}{te:TE}{pos':Pos}(hN:X.N.Nodup)(hi:X.N[i]?=some x)(hx:Loc X.env.scope x)(he:PE X e te)(hs:swapsWith e (some (.Name x pos')) pos.line X.env=pure false:=by rfl)(hf:X.fn x=true\/X.env.scope.names.lookup x=some .local:=by first|exact .inl rfl|exact .inr rfl|assumption):
  PS X (.Assign [.Name x pos'] e pos) (ti te (fh i)):=by
 intro pins s σ H D I h;refine wpAny_Assign_Name (thn (he pins s σ H _ I h) fun v s1 hPz=>?_) hs;obtain⟨y,H1,I1,r1,q1⟩:=hPz;exact jT I1 hN hi hx r1 (fun s2 I2=>⟨_,H1,I2,q1⟩) hf
def rB(c:TT)(tb:TS):TS:=fun D σ H=>∃W:Nat->St->Hp->Prop,(∃m,W m σ H)/\∀m σ H,W m σ H->
 c σ H fun b H1=>if b=true then ∃N:St->Hp->Prop,(∀σ' H',N σ' H'->∃m',m'<m/\W m' σ' H')/\tb {D with nx:=N,ct:=N,bk:=D.nx} σ H1 else D.nx σ H1
theorem jZ{c:Expr}{body:List Stmt}{tc:TT}{tb:TS}(hp:PassesOwn (model X.prog X.w) X.A X.env X.xe)(hc:PT X c tc)(hb:PSs X body tb):PS X (.While c body [] pos) (rB tc tb):=by
 intro pins s σ H D I h;obtain⟨W,⟨m0,w0⟩,turn⟩:=h;refine wpAny_While (codeAny_whileLoop (fun n s'=>∃σ' H',Inv X pins σ' H' s'/\W n σ' H') ?_ m0 ⟨σ,H,I,w0⟩);rintro n s1 ⟨σ1,H1,I1,w1⟩;refine wpAny_passesOwn hp (thn (hc pins s1 σ1 H1 _ I1 (turn n σ1 H1 w1)) fun b s2 hPz=>?_);obtain⟨H2,I2,q2⟩:=hPz;cases b with
 |true=>
  obtain⟨N,hN,q2⟩:=q2;rw[uM rfl];refine wpAny_passesOwn hp (thn (hb pins s2 σ1 H2 _ I2 q2) fun f s3 q3=>?_);cases f with
  |next=>obtain⟨σ3,H3,I3,n3⟩:=q3;obtain⟨m',hm,w3⟩:=hN σ3 H3 n3;exact⟨m',hm,σ3,H3,I3,w3⟩
  |cont=>obtain⟨σ3,H3,I3,n3⟩:=q3;obtain⟨m',hm,w3⟩:=hN σ3 H3 n3;exact⟨m',hm,σ3,H3,I3,w3⟩
  |brk=>exact q3
  |ret v=>exact q3
 |false=>rw[uK uT];exact wpAny_execs_nil ⟨σ1,H2,I2,q2⟩
end
structure It where
 go:Nat->Hp->Prop
 yld:Nat->Hp->V->Hp->Prop
 stop:Nat->Hp->Prop
def f9(X:Cx)(pins:List (Addr×Obj))(H:Hp)(b:Addr):Prop:=
 H b=none/\b≠X.env.locals/\b∉X.fs/\(b∈X.ex\/X.s₀.heap.objs.size<=b)/\(∀x c,X.env.cells.lookup x=some c->c≠b)/\∀p∈X.pn++pins,p.1≠b
theorem Inv.fpOk{X:Cx}{pins:List (Addr×Obj)}{σ:St}{H H':Hp}{s:Shared}{b:Addr}(I:Inv X pins σ H s)(hb:s.heap.objs.size<=b)(hn:H' b=none):f9 X pins H' b:=by
 refine⟨hn,Nat.ne_of_gt (uQ I.lt hb),I.nofs hb,.inr (wF I.sz hb),fun x c e z=>?_,fun p hp z=>?_⟩
 ·obtain⟨v,q⟩:=I.cell x c e;exact absurd (uQ q.lt (by rw[z];exact hb)) (Nat.lt_irrefl _)
 ·exact absurd (uQ (uU (I.pin p hp).1) (by rw[z];exact hb)) (Nat.lt_irrefl _)
structure Turn(P:Program)(w:World)(K:Frag)(tg:Expr)(J:It)(fp:List Addr)(it:Addr)(tn:Nat->Heap->Prop):Prop where
 mem:it∈fp
 obj:∀i h,tn i h->∀b∈fp,∃o,h.get? b=some o/\∀v,o.data≠ .cell v
 keep:∀i h h',tn i h->(∀b∈fp,∀o,h.get? b=some o->h'.get? b=some o)->tn i h'
 item:∀(X:Cx),X.prog=P->X.w=w->X.K=K->X.calm=true->∀(i:Nat)(pins:List (Addr×Obj))(s:Shared)(σ:St)(H:Hp)(E:Value->Shared->Prop),Inv X pins σ H s->(∀b∈fp,f9 X pins H b)->tn i s.heap->J.go i H->
  wpAny (model P w) X.A (pyNext (.ref it)) (fun r s1=>∃u,r=some u/\
   wpAny (model P w) X.A (letOwnedTupleGo tg (.ref it) u) (fun _ s2=>∃x H',Inv X pins σ H' s2/\RelV x u/\J.yld i H x H'/\tn (i+1) s2.heap/\∀b∈fp,H' b=none) E s1) E s
 done:∀(X:Cx),X.prog=P->X.w=w->X.K=K->X.calm=true->∀(i:Nat)(pins:List (Addr×Obj))(s:Shared)(σ:St)(H:Hp)(E:Value->Shared->Prop),Inv X pins σ H s->(∀b∈fp,f9 X pins H b)->tn i s.heap->J.stop i H->
  wpAny (model P w) X.A (pyNext (.ref it)) (fun r s1=>r=none/\Inv X pins σ H s1) E s
 self:∀(A:Around)(i:Nat)(s:Shared)(Q:Value->Shared->Prop)(E:Value->Shared->Prop),tn i s.heap->Q (.ref it) s->wpAny (model P w) A (pyIter (.ref it)) Q E s
noncomputable abbrev TI:=St->Hp->(It->Hp->Prop)->Prop
def PIE(X:Cx)(pins:List (Addr×Obj))(σ:St)(tg:Expr)(R:It->Hp->Prop)(itv:Value)(s2:Shared):Prop:=
 ∃(it:Addr)(fp:List Addr)(tn:Nat->Heap->Prop)(J:It)(H':Hp),itv=.ref it/\Inv X pins σ H' s2/\Turn X.prog X.w X.K tg J fp it tn/\tn 0 s2.heap/\(∀b∈fp,f9 X pins H' b)/\R J H'
def PI(X:Cx)(tg iter:Expr)(wi:TI):Prop:=
 ∀(pins:List (Addr×Obj))(s:Shared)(σ:St)(H:Hp)(R:It->Hp->Prop),Inv X pins σ H s->wi σ H R->
  wpAny (model X.prog X.w) X.A (eval iter X.env) (fun v s1=>wpAny (model X.prog X.w) X.A (pyIter v) (PIE X pins σ tg R) X.xe s1) X.xe s
theorem pq {M : Model} {A : Around} {E : Value → Shared → Prop} {s : Shared} {tg : Expr} {it : Addr} {u : Value} {o : Obj} {n : String} {vs : Array Value} {Q : Unit → Shared → Prop} (ho : s.heap.get? it = some o) (hc : o.cls = .type n) (hd : o.data = .fields vs)
    (hn : ["enumerate", "zip", "dict_itemiterator", "dict_reverseitemiterator", "odict_iterator", "itertools.zip_longest", "itertools.pairwise"].contains n = false) (hQ : Q () s) : wpAny M A (letOwnedTupleGo tg (.ref it) u) Q E s := by
  unfold letOwnedTupleGo
  cases tg <;> first
    | exact wpAny_pure hQ
    | (cases u <;> first
        | exact wpAny_pure hQ
        | (refine wpAny_bind (wpAny_load ho ?_)
           rw [hc, hd]
           show wpAny M A (if (["enumerate", "zip", "dict_itemiterator", "dict_reverseitemiterator", "odict_iterator", "itertools.zip_longest", "itertools.pairwise"].contains n && vs[0]? == some (rawInt _)) = true then _ else _) Q E s
           rw [if_neg (by intro h; rw [hn, Bool.false_and] at h; cases h)]
           exact wpAny_pure hQ))
noncomputable def Itl(K:Frag)(a:Addr):It:=
 ⟨fun i H=>∃xs x,SqL K H a xs/\xs[i]?=some x,fun i H x H'=>H'=H/\∀xs,SqL K H a xs->xs[i]?=some x,fun i H=>∃xs,SqL K H a xs/\xs.length<=i⟩
noncomputable def Itr(lo:Int)(n:Nat):It:=⟨fun i _=>i<n,fun i H x H'=>H'=H/\x=.int (lo+i),fun i _=>n<=i⟩
theorem mZ{P:Program}{w:World}{K:Frag}{tg:Expr}(a it:Addr):Turn P w K tg (Itl K a) [it] it (fun i h=>h.IsListIter it a i) where
 mem:=by simp
 obj:=fun i h st b hb=>by
  have e:b=it:=by simpa using hb
  subst e;obtain⟨o,e,c,d⟩:=st;exact⟨o,e,fun v z=>by rw[d]at z;cases z⟩
 keep:=fun i h h' st k=>st.at fun o e=>k it (by simp) o e
 item:=by intro X hP hw hK hc i pins s σ H E I hf st hg;subst hP hw hK;obtain⟨xs,x,hq,hx⟩:=hg;obtain⟨its,rv,p,hz⟩:=I.list hq;obtain⟨u,hu,ru⟩:=rv.get hx;obtain⟨f0,f1,f2,f3,f4,f5⟩:=hf it (by simp);refine wpAny_pyNext_list_item st p.isList (x:=u) (by simpa using hu) fun h' st' sb=>?_;have I1:Inv X pins σ H {s with heap:=h'}:=I.turned (t':=s.toks) (fun b o hb e=>(sb.2 b hb).trans e) f0 f1 f3 f4 f5;obtain⟨o,e,c,d⟩:=id st';exact⟨u,rfl,pq (s:={s with heap:=h'}) e c d (by decide) ⟨x,H,I1,ru,⟨rfl,fun ys hy=>by rw[I.list_inj hy hq];exact hx⟩,st',fun b hb=>(hf b hb).1⟩⟩
 done:=by intro X hP hw hK hc i pins s σ H E I hf st hg;subst hP hw hK;obtain⟨xs,hq,hx⟩:=hg;obtain⟨its,rv,p,hz⟩:=I.list hq;obtain⟨f0,f1,f2,f3,f4,f5⟩:=hf it (by simp);have hl:=rv.length;exact wpAny_pyNext_list_end (I.ok.hd hc) st p.isList (by simp;omega) fun h' eb=>⟨rfl,I.turned (t':=s.toks) (fun b o hb e=>eb b o hb e) f0 f1 f3 f4 f5⟩
 self:=fun _ _ _ _ _ st h=>wpAny_pyIter_listiter st h
theorem kN{P:Program}{w:World}{K:Frag}{tg:Expr}(it:Addr)(lo:Int)(n:Nat):Turn P w K tg (Itr lo n) [it] it (fun i h=>IsRangeIter h it (lo+(i:Nat)*1) ((n:Int)-(i:Nat)) 1) where
 mem:=by simp
 obj:=fun i h st b hb=>by
  have e:b=it:=by simpa using hb
  subst e
  exact⟨_,st,fun v z=>by
   have z':Data.fields _=Data.cell v:=z
   cases z'⟩
 keep:=fun i h h' st k=>k it (by simp) _ st
 item:=by intro X hP hw hK hc i pins s σ H E I hf st hg;subst hP hw hK;obtain⟨f0,f1,f2,f3,f4,f5⟩:=hf it (by simp);have W:=Walks.range (prog:=X.prog) (w:=X.w) (I.ok.hd hc) it lo 1 n;refine W.item i s _ _ hg st fun v h' tk hv st' kk=>?_;obtain⟨t,rfl⟩:=hv;have I1:Inv X pins σ H {s with heap:=h',toks:=tk}:=I.turned (fun b o hb e=>kk b o (by simpa using hb) e) f0 f1 f3 f4 f5;refine⟨_,rfl,pq (s:={s with heap:=h',toks:=tk}) (n:="range_iterator") st' rfl rfl (by decide) ⟨.int (lo+i),H,I1,⟨t,?_⟩,⟨rfl,rfl⟩,st',fun b hb=>(hf b hb).1⟩⟩;rw[Int.mul_one]
 done:=by intro X hP hw hK hc i pins s σ H E I hf st hg;subst hP hw hK;obtain⟨f0,f1,f2,f3,f4,f5⟩:=hf it (by simp);exact wpAny_pyNext_range_end (I.ok.hd hc) st (by have:n<=i:=hg;omega) fun h' eb=>⟨rfl,I.turned (t':=s.toks) (fun b o hb e=>eb b o hb e) f0 f1 f3 f4 f5⟩
 self:=fun _ _ _ _ _ st h=>wpAny_pyIter_rangeiter st h
section
variable{X:Cx}{tg:Expr}
def tU(K:Frag)(tl:TE):TI:=fun σ H R=>tl σ H fun x H1=>∃a,x=.ref a/\(∃xs,SqL K H1 a xs)/\R (Itl K a) H1
theorem bK{l:Expr}{tl:TE}(hl:PE X l tl):PI X tg l (tU X.K tl):=by
 intro pins s σ H R I h;refine thn (hl pins s σ H _ I h) fun v s1 hPz=>?_;obtain⟨x,H1,I1,r1,q1⟩:=hPz;obtain⟨a,e,⟨xs,hq⟩,q⟩:=q1;subst e;cases r1;obtain⟨its,rv,p,hz⟩:=I1.list hq;refine wpAny_pyIter_list p.isList ?_;refine⟨s1.heap.objs.size,[s1.heap.objs.size],_,_,H1,rfl,I1.kept (t':=s1.toks) fun b o e=>uI _ e,mZ a _,⟨_,vj _ rfl,rfl,rfl⟩,fun b hb=>?_,q⟩;have e:b=s1.heap.objs.size:=by simpa using hb
 subst e;exact I1.fpOk (uW _) (I1.hok.fresh (uW _))
theorem og{pins:List (Addr×Obj)}{σ:St}{H:Hp}{s:Shared}{R:It->Hp->Prop}{E:Value->Shared->Prop}{lo hi:Int}{t u v:Tok}{tk:Nat}(I:Inv X pins σ H s)(h1: -(2^62)<=lo)(h2:lo<2^62)(h3: -(2^62)<=hi)(h4:hi<2^62)
  (q:R (Itr lo (hi-lo).toNat) H):wpAny (model X.prog X.w) X.A (pyIter (.ref s.heap.objs.size)) (PIE X pins σ tg R) E {s with heap:=s.heap.push {cls:=.type "range",data:=.fields #[.int lo t,.int hi u,.int 1 v]},toks:=tk}:=by
 refine wpAny_pyIter_range (IsRange.new ..) (small_one h1 h2 h3 h4) ?_;have I1:Inv X pins σ H {s with heap:=s.heap.push {cls:=.type "range",data:=.fields #[.int lo t,.int hi u,.int 1 v]},toks:=tk}:=I.kept fun b o e=>uI _ e
 refine⟨(s.heap.push {cls:=.type "range",data:=.fields #[.int lo t,.int hi u,.int 1 v]}).objs.size,[(s.heap.push {cls:=.type "range",data:=.fields #[.int lo t,.int hi u,.int 1 v]}).objs.size],_,_,H,rfl,
  I1.kept (t':=tk) fun b o e=>uI _ e,kN _ lo (hi-lo).toNat,?_,fun b hb=>?_,q⟩
 ·have e1:lo+((0:Nat):Int)*1=lo:=by simp
  have e2:(((hi-lo).toNat:Nat):Int)-((0:Nat):Int)=Builtin.Range.rangeSize lo hi 1:=by rw[rangeSize_one];split<;>omega
  show IsRangeIter _ _ (lo+((0:Nat):Int)*1) ((((hi-lo).toNat:Nat):Int)-((0:Nat):Int)) 1;rw[e1,e2];exact vj _ rfl
 ·have e:b=(s.heap.push {cls:=.type "range",data:=.fields #[.int lo t,.int hi u,.int 1 v]}).objs.size:=by simpa using hb
  subst e;exact I1.fpOk (uW _) (I1.hok.fresh (uW _))
def tT(ta:TA):TI:=fun σ H R=>ta σ H fun vs H1=>∃j:Int,vs=[.int j]/\ -(2^62)<=j/\j<2^62/\R (Itr 0 j.toNat) H1
theorem cP{a:Expr}{ta:TA}{p pos:Pos}(hg:Gl X "range")(hm:X.mg "range"=none)(ha:PA X [a] ta)(hs:starEach [a] X.env=[(false,eval a X.env)]:=by rfl):PI X tg (.Call (.Name "range" p) [a] [] pos) (tT ta):=by
 intro pins s σ H R I h;refine Call_ (gZ I hg hm boot_range (PyProof.Rows.callWith_type1 (thn (ha pos pins s σ H _ I h) fun us s1 hPz=>?_) hs rfl));obtain⟨vs,H1,I1,r1,q1⟩:=hPz;obtain⟨j,e,q1,q2,q⟩:=q1;subst e;cases r1 with
 |cons r rr=>cases rr;obtain⟨t,rfl⟩:=r;exact call_range_1 (og I1 (by omega) (by omega) q1 q2 (by simpa using q))
def uo(wi:TI)(g:TG)(tb:TS):TS:=fun D σ H=>wi σ H fun J H1=>∃W:Nat->Nat->St->Hp->Prop,(∃m,W 0 m σ H1)/\∀i m σ H,W i m σ H->
 (J.stop i H/\D.nx σ H)\/(J.go i H/\∃N:St->Hp->Prop,(∀σ' H',N σ' H'->∃m',m'<m/\W (i+1) m' σ' H')/\∀x H',J.yld i H x H'->g x σ H' fun σ2 H2=>tb {D with nx:=N,ct:=N,bk:=D.nx} σ2 H2)
noncomputable def gQ(fp:List Addr)(h:Heap):List (Addr×Obj):=fp.filterMap fun b=>(h.get? b).map fun o=>(b,o)
theorem dP{fp:List Addr}{h:Heap}{b:Addr}{o:Obj}(hb:b∈fp)(e:h.get? b=some o):(b,o)∈gQ fp h:=List.mem_filterMap.mpr ⟨b,hb,by rw[e];rfl⟩
theorem ny{fp:List Addr}{h:Heap}{p:Addr×Obj}(hp:p∈gQ fp h):p.1∈fp/\h.get? p.1=some p.2:=by
 obtain⟨b,hb,e⟩:=List.mem_filterMap.mp hp;cases q:h.get? b with
 |none=>rw[q]at e;cases e
 |some o=>rw[q]at e;have e':(b,o)=p:=wj e;subst e';exact⟨hb,q⟩
theorem Inv.pinned{pins:List (Addr×Obj)}{σ:St}{H:Hp}{s:Shared}{fp:List Addr}(I:Inv X pins σ H s)(hf:∀b∈fp,f9 X pins H b)(ho:∀b∈fp,∃o,s.heap.get? b=some o/\∀v,o.data≠ .cell v):Inv X (pins++gQ fp s.heap) σ H s:=
 I.pins_of fun p hp=>(uR.mp hp).elim (fun z=>I.pin p (vc _ z)) fun z=>by obtain⟨hb,e⟩:=ny z;obtain⟨f0,f1,f2,_⟩:=hf p.1 hb;obtain⟨o,e',d⟩:=ho p.1 hb;rw[e]at e';cases e';exact⟨e,f0,f1,f2,d⟩
theorem Inv.unpinned{pins pl:List (Addr×Obj)}{σ:St}{H:Hp}{s:Shared}(I:Inv X (pins++pl) σ H s):Inv X pins σ H s:=I.pins_of fun p hp=>I.pin p (vc _ (vq _ hp))
theorem cG{iter:Expr}{body:List Stmt}{wi:TI}{g:TG}{tb:TS}{pos:Pos}(hp:PassesOwn (model X.prog X.w) X.A X.env X.xe)(hc:X.calm=true)(hi:PI X tg iter wi)(hg:PG X tg g)(hb:PSs X body tb)
  (hs:∀x,foldedSetIterable iter X.env x=pure x:=by intro _;rfl):PS X (.For tg iter body [] pos) (uo wi g tb):=by
 intro pins s σ H D I h;refine wpAny_For (thn (hi pins s σ H _ I h) fun v s1 h1=>thn h1 fun itv s2 h2=>?_) hs;obtain⟨it,fp,tn,J,H2,e,I2,T,st2,f2,W,⟨m0,w0⟩,turn⟩:=h2;subst e;have stat:∀{H':Hp},(∀b∈fp,H' b=none)->∀b∈fp,f9 X pins H' b:=fun hn b hb=>⟨hn b hb,(f2 b hb).2⟩;refine codeAny_forLoop_any (fun n s'=>∃i σ' H',Inv X pins σ' H' s'/\tn i s'.heap/\(∀b∈fp,H' b=none)/\W i n σ' H') ?_ m0 ⟨0,σ,H2,I2,st2,fun b hb=>(f2 b hb).1,w0⟩;rintro n s3 ⟨i,σ3,H3,I3,st3,fr3,w3⟩;rcases turn i n σ3 H3 w3 with⟨stop,qn⟩|⟨go,N,hN,step⟩
 ·refine wpAny_passesOwn hp (thn (T.done X rfl rfl rfl hc i pins s3 σ3 H3 X.xe I3 (stat fr3) st3 stop) fun r s4 ⟨hr,I4⟩=>?_);subst hr;exact wpAny_execs_nil ⟨σ3,H3,I4,qn⟩
 ·refine wpAny_passesOwn hp (thn (T.item X rfl rfl rfl hc i pins s3 σ3 H3 X.xe I3 (stat fr3) st3 go) fun r s4 hPz=>?_);obtain⟨u,hr,h4⟩:=hPz;subst hr;refine wpAny_passesOwn hp (thn h4 fun _ s5 hPz=>?_);obtain⟨x,H5,I5,r5,y5,st5,fr5⟩:=hPz;have I5':=I5.pinned (stat fr5) (T.obj _ _ st5);refine wpAny_passesOwn hp (thn (hg _ s5 σ3 H5 x u _ I5' r5 (step x H5 y5)) fun _ s6 hPz=>?_);obtain⟨σ6,H6,I6,q6⟩:=hPz;refine wpAny_passesOwn hp (thn (hb _ s6 σ6 H6 _ I6 q6) fun f s7 q7=>?_);have again:∀{σ7:St}{H7:Hp},Inv X (pins++gQ fp s5.heap) σ7 H7 s7->N σ7 H7->∃m,m<n/\∃i σ' H',Inv X pins σ' H' s7/\tn i s7.heap/\(∀b∈fp,H' b=none)/\W i m σ' H':=fun {σ7 H7} I7 n7=>by
   obtain⟨m',hm,w7⟩:=hN σ7 H7 n7;refine⟨m',hm,i+1,σ7,H7,I7.unpinned,T.keep _ _ _ st5 fun b hb o e=>(I7.pin (b,o) (vc _ (vc _ (dP hb e)))).1,fun b hb=>?_,w7⟩;obtain⟨o,e,d⟩:=T.obj _ _ st5 b hb;exact(I7.pin (b,o) (vc _ (vc _ (dP hb e)))).2.1
  cases f with
  |next=>obtain⟨σ7,H7,I7,n7⟩:=q7;exact again I7 n7
  |cont=>obtain⟨σ7,H7,I7,n7⟩:=q7;exact again I7 n7
  |brk=>obtain⟨σ7,H7,I7,q7⟩:=q7;exact⟨σ7,H7,I7.unpinned,q7⟩
  |ret v=>obtain⟨x7,σ7,H7,I7,r7,q7⟩:=q7;exact⟨x7,σ7,H7,I7.unpinned,r7,q7⟩
end
theorem bZ{K:Frag}{a:Addr}{xs:List V}{g:TG}{tb:TS}{D:Ends}{σ:St}{H:Hp}(Pv:Nat->St->Hp->Prop)(h0:Pv 0 σ H)(hl:∀i σ H,i<=xs.length->Pv i σ H->SqL K H a xs)
  (hs:∀i x σ H,xs[i]?=some x->Pv i σ H->g x σ H fun σ2 H2=>tb {D with nx:=Pv (i+1),ct:=Pv (i+1),bk:=D.nx} σ2 H2) (hd:∀σ H,Pv xs.length σ H->D.nx σ H):
  ∃W:Nat->Nat->St->Hp->Prop,(∃m,W 0 m σ H)/\∀i m σ H,W i m σ H->
   ((Itl K a).stop i H/\D.nx σ H)\/((Itl K a).go i H/\∃N:St->Hp->Prop,(∀σ' H',N σ' H'->∃m',m'<m/\W (i+1) m' σ' H')/\∀x H',(Itl K a).yld i H x H'->g x σ H' fun σ2 H2=>tb {D with nx:=N,ct:=N,bk:=D.nx} σ2 H2):=by
 refine⟨fun i m σ H=>m=xs.length-i/\i<=xs.length/\Pv i σ H,⟨xs.length,by simp,vN _,h0⟩,?_⟩;rintro i m σ H ⟨rfl,hi,p⟩;have q:=hl i σ H hi p;by_cases hlt:i<xs.length
 ·refine .inr ⟨⟨xs,xs[i],q,by simp[hlt]⟩,Pv (i+1),fun σ' H' p'=>⟨xs.length-(i+1),by omega,rfl,hlt,p'⟩,fun x H' y=>?_⟩;obtain⟨e,y⟩:=y;subst e;exact hs i x σ _ (y xs q) p
 ·have e:i=xs.length:=by omega
  subst e;exact .inl ⟨⟨xs,q,uW _⟩,hd σ H p⟩
theorem fX{lo:Int}{n:Nat}{g:TG}{tb:TS}{D:Ends}{σ:St}{H:Hp}(Pv:Nat->St->Hp->Prop)(h0:Pv 0 σ H)
  (hs:∀i σ H,i<n->Pv i σ H->g (.int (lo+i)) σ H fun σ2 H2=>tb {D with nx:=Pv (i+1),ct:=Pv (i+1),bk:=D.nx} σ2 H2) (hd:∀σ H,Pv n σ H->D.nx σ H):
  ∃W:Nat->Nat->St->Hp->Prop,(∃m,W 0 m σ H)/\∀i m σ H,W i m σ H->
   ((Itr lo n).stop i H/\D.nx σ H)\/((Itr lo n).go i H/\∃N:St->Hp->Prop,(∀σ' H',N σ' H'->∃m',m'<m/\W (i+1) m' σ' H')/\∀x H',(Itr lo n).yld i H x H'->g x σ H' fun σ2 H2=>tb {D with nx:=N,ct:=N,bk:=D.nx} σ2 H2):=by
 refine⟨fun i m σ H=>m=n-i/\i<=n/\Pv i σ H,⟨n,by simp,vN _,h0⟩,?_⟩;rintro i m σ H ⟨rfl,hi,p⟩;by_cases hlt:i<n
 ·refine .inr ⟨hlt,Pv (i+1),fun σ' H' p'=>⟨n-(i+1),by omega,rfl,hlt,p'⟩,fun x H' y=>?_⟩;obtain⟨e,y⟩:=y;subst e y;exact hs i σ _ hlt p
 ·have e:i=n:=by omega
  subst e;exact .inl ⟨uW _,hd σ H p⟩
noncomputable abbrev R2:=V->V->Hp->VK->Prop
def OpR(X:Cx)(f:Value->Value->Sem Value)(r:R2):Prop:=
 ∀(pins:List (Addr×Obj))(s:Shared)(σ:St)(H:Hp)(x y:V)(v u:Value)(Q:VK),Inv X pins σ H s->RelV x v->RelV y u->r x y H Q->
  wpAny (model X.prog X.w) X.A (f v u) (EP X pins σ Q) X.xe s
def eI(X:Cx)(f:Value)(r:List V->Hp->VK->Prop):Prop:=
 ∀(pins:List (Addr×Obj))(s:Shared)(σ:St)(H:Hp)(xs:List V)(us:List Value)(Q:VK),Inv X pins σ H s->Vals xs us->r xs H Q->
  wpAny (model X.prog X.w) X.A (call f us) (EP X pins σ Q) X.xe s
def tOp(r:R2)(ta tb:TE):TE:=fun σ H Q=>ta σ H fun x H1=>tb σ H1 fun y H2=>r x y H2 Q
noncomputable def rI(C:Int->Int->Prop)(g:Int->Int->V):R2:=fun x y H Q=>∃i j,x=.int i/\y=.int j/\C i j/\Q (g i j) H
noncomputable def rI0(g:Int->Int->V):R2:=fun x y H Q=>∃i j,x=.int i/\y=.int j/\Q (g i j) H
section
variable{X:Cx}{a b c:Expr}{ta tb tc:TE}{pos:Pos}
theorem sL(ha:PE X a ta)(hb:PE X b tb){pins:List (Addr×Obj)}{s:Shared}{σ:St}{H:Hp}{R:V->V->Hp->Prop}(I:Inv X pins σ H s)
  (h:ta σ H fun x H1=>tb σ H1 fun y H2=>R x y H2) {Q:Value->Shared->Prop} {f:Value->Value->Sem Value}
  (hf:∀v u s2 x y H2,Inv X pins σ H2 s2->RelV x v->RelV y u->R x y H2->wpAny (model X.prog X.w) X.A (f v u) Q X.xe s2):
  wpAny (model X.prog X.w) X.A (eval a X.env) (fun v s₁=>wpAny (model X.prog X.w) X.A (eval b X.env) (fun u s₂=>wpAny (model X.prog X.w) X.A (f v u) Q X.xe s₂) X.xe s₁) X.xe s:=by
 refine thn (ha pins s σ H _ I h) fun v s1 hPz=>?_;obtain⟨x,H1,I1,r1,q1⟩:=hPz;refine thn (hb pins s1 σ H1 _ I1 q1) fun u s2 hPz=>?_;obtain⟨y,H2,I2,r2,q2⟩:=hPz;exact hf v u s2 x y H2 I2 r1 r2 q2
theorem aj{op:Operator}{r:R2}(ho:OpR X (binaryOp op) r)(ha:PE X a ta)(hb:PE X b tb):PE X (.BinOp a op b pos) (tOp r ta tb):=by intro pins s σ H Q I h;exact wpAny_BinOp (sL ha hb I h fun v u s2 x y H2 I2 rx ry q=>ho pins s2 σ H2 x y v u Q I2 rx ry q)
theorem opI{f:Value->Value->Sem Value}{C:Int->Int->Prop}{g:Int->Int->Int}
  (rule:∀(i j:Int)(t u:Tok)(s:Shared)(Q:Value->Shared->Prop)(E:Value->Shared->Prop),C i j->Q (.int (g i j) s.toks) {s with toks:=s.toks+1}->wpAny (model X.prog X.w) X.A (f (.int i t) (.int j u)) Q E s):
  OpR X f (rI C fun i j=>.int (g i j)):=by
 intro pins s σ H x y v u Q I rx ry h;obtain⟨i,j,rfl,rfl,hc,q⟩:=h;obtain⟨t,rfl⟩:=rx;obtain⟨t',rfl⟩:=ry;exact rule i j t t' s _ _ hc ⟨.int (g i j),H,I.tok _,⟨_,rfl⟩,q⟩
theorem oF{f:Value->Value->Sem Value}{g:Int->Int->Int}
  (rule:∀(i j:Int)(t u:Tok)(s:Shared)(Q:Value->Shared->Prop)(E:Value->Shared->Prop),Q (.int (g i j) s.toks) {s with toks:=s.toks+1}->wpAny (model X.prog X.w) X.A (f (.int i t) (.int j u)) Q E s):
  OpR X f (rI0 fun i j=>.int (g i j)):=by
 intro pins s σ H x y v u Q I rx ry h;obtain⟨i,j,rfl,rfl,q⟩:=h;obtain⟨t,rfl⟩:=rx;obtain⟨t',rfl⟩:=ry;exact rule i j t t' s _ _ ⟨.int (g i j),H,I.tok _,⟨_,rfl⟩,q⟩
theorem qm{f:Value->Value->Sem Value}{g:Int->Int->Bool}
  (rule:∀(i j:Int)(t u:Tok)(s:Shared)(Q:Value->Shared->Prop)(E:Value->Shared->Prop),Q (.bool (g i j)) s->wpAny (model X.prog X.w) X.A (f (.int i t) (.int j u)) Q E s):
  OpR X f (rI0 fun i j=>.bl (g i j)):=by
 intro pins s σ H x y v u Q I rx ry h;obtain⟨i,j,rfl,rfl,q⟩:=h;obtain⟨t,rfl⟩:=rx;obtain⟨t',rfl⟩:=ry;exact rule i j t t' s _ _ ⟨.bl (g i j),H,I,rfl,q⟩
def uD(i j:Int):Prop:=0<j/\j<1073741824
def ua(i j:Int):Prop:=0<=j/\j<=1000000/\i.natAbs<2^64
def sO(i j:Int):Prop:=(-(2^64)<i/\i<2^64)\/(-(2^64)<j/\j<2^64)
theorem sO.ok{i j:Int}(h:sO i j):IntMulOk i j:=by
 rcases h with⟨h1,h2⟩|⟨h1,h2⟩
 ·exact .of_left (intBits_le_64 h1 h2)
 ·exact .of_right (intBits_le_64 h1 h2)
theorem two_pow_nn(k:Nat):(0:Int)<=2^k:=by rw[two_pow_cast];exact Int.natCast_nonneg _
theorem bB:OpR X (binaryOp .Add) (rI0 fun i j=>.int (i+j)):=oF fun _ _ _ _ _ _ _ q=>add_int q
theorem bu:OpR X (binaryOp .Sub) (rI0 fun i j=>.int (i-j)):=oF fun _ _ _ _ _ _ _ q=>sub_int q
theorem dO:OpR X (binaryOp .Mult) (rI sO fun i j=>.int (i*j)):=opI fun _ _ _ _ _ _ _ hc q=>mul_int q hc.ok
theorem bL:OpR X (binaryOp .FloorDiv) (rI uD fun i j=>.int (i / j)):=opI fun i j _ _ _ _ _ hc q=>by have h1:(0:Int)<j:=hc.1;have h2:j<1073741824:=hc.2;exact floordiv_int (by omega) (by rw[Int.fdiv_eq_ediv_of_nonneg i (by omega)];exact q) (.inl (PyProof.noPylong_small (by omega)))
theorem a8:OpR X (binaryOp .Mod) (rI (fun _ j=>0<j) fun i j=>.int (i % j)):=opI fun i j _ _ _ _ _ hc q=>by have h1:(0:Int)<j:=hc;exact mod_int' (by omega) (by rw[Int.fmod_eq_emod_of_nonneg i (by omega)];exact q)
theorem oA:OpR X (binaryOp .Pow) (rI ua fun i j=>.int (i^j.toNat)):=opI fun _ _ _ _ _ _ _ hc q=>pow_int_small hc.1 hc.2.1 hc.2.2 q
theorem dN:OpR X (binaryOp .LShift) (rI ua fun i j=>.int (i*2^j.toNat)):=opI fun _ _ _ _ _ _ _ hc q=>lshift_int_small hc.1 hc.2.1 hc.2.2 q
theorem rV:OpR X (binaryOp .RShift) (rI (fun _ j=>0<=j) fun i j=>.int (i / 2^j.toNat)):=opI fun i j _ _ _ _ _ hc q=>rshift_int hc (by rw[Int.fdiv_eq_ediv_of_nonneg i (two_pow_nn _)];exact q)
theorem oE:OpR X (binaryOp .BitAnd) (rI0 fun i j=>.int (Builtin.bitAnd i j)):=oF fun _ _ _ _ _ _ _ q=>and_int q
theorem tI:OpR X (binaryOp .BitOr) (rI0 fun i j=>.int (Builtin.bitOr i j)):=oF fun _ _ _ _ _ _ _ q=>or_int q
theorem rU:OpR X (binaryOp .BitXor) (rI0 fun i j=>.int (Builtin.bitXor i j)):=oF fun _ _ _ _ _ _ _ q=>xor_int q
end
noncomputable def tq:V->V->Bool
 | .non,.non=>true| .non,.int _=>true| .int _,.non=>true| .non,.bl _=>true| .bl _,.non=>true| .non,.str _=>true| .str _,.non=>true
 | .int _,.int _=>true| .bl _,.bl _=>true| .str _,.str _=>true| .byt _,.byt _=>true
 | .int _,.str _=>true| .str _,.int _=>true| .bl _,.str _=>true| .str _,.bl _=>true
 |_,_=>false
noncomputable def rEq:R2:=fun x y H Q=>tq x y=true/\Q (.bl (decide (x=y))) H
noncomputable def rNe:R2:=fun x y H Q=>tq x y=true/\Q (.bl (!decide (x=y))) H
theorem mK{i j:Int}:decide (V.int i=V.int j)=(i==j):=by rw[wo];simp
theorem pF{i j:Bool}:decide (V.bl i=V.bl j)=(i==j):=by rw[wo];simp
theorem mJ{i j:Str}:decide (V.str i=V.str j)=(i==j):=by rw[wo];simp
theorem mL{i j:Array UInt8}:decide (V.byt i=V.byt j)=(i.toList==j.toList):=by rw[wo];cases i;cases j;simp
section
variable{X:Cx}{a b c:Expr}{ta tb tc:TE}{pos:Pos}
theorem aH{pins:List (Addr×Obj)}{σ:St}{H:Hp}{s:Shared}{Q:VK}{k k':Bool}(I:Inv X pins σ H s)(q:Q (.bl k) H)(e:k=k'):EP X pins σ Q (.bool k') s:=by subst e;exact⟨.bl k,H,I,rfl,q⟩
theorem dz:OpR X (compareOp .Eq) rEq:=by
 intro pins s σ H x y v u Q I rx ry h;obtain⟨hs,q⟩:=h;cases x with
 |non=>
  cases rx;cases y with
  |non=>cases ry;exact PySem.EqNone.eq_none_none (aH I q (by simp))
  |bl j=>cases ry;exact PySem.EqNone.eq_none_bool (aH I q (by simp))
  |int j=>obtain⟨t',rfl⟩:=ry;exact PySem.EqNone.eq_none_int (aH I q (by simp))
  |str j=>obtain⟨t',rfl⟩:=ry;exact PySem.EqNone.eq_none_str (aH I q (by simp))
  |_=>exact absurd (show false=true from hs) uT
 |bl i=>
  cases rx;cases y with
  |non=>cases ry;exact PySem.EqNone.eq_bool_none (aH I q (by simp))
  |bl j=>cases ry;exact eq_bool (aH I q pF)
  |str j=>obtain⟨t',rfl⟩:=ry;exact PySem.EqMixed.eq_bool_str (aH I q (by simp))
  |_=>exact absurd (show false=true from hs) uT
 |int i=>
  obtain⟨t,rfl⟩:=rx;cases y with
  |non=>cases ry;exact PySem.EqNone.eq_int_none (aH I q (by simp))
  |int j=>obtain⟨t',rfl⟩:=ry;exact eq_int (aH I q mK)
  |str j=>obtain⟨t',rfl⟩:=ry;exact PySem.EqMixed.eq_int_str (aH I q (by simp))
  |_=>exact absurd (show false=true from hs) uT
 |str i=>
  obtain⟨t,rfl⟩:=rx;cases y with
  |non=>cases ry;exact PySem.EqNone.eq_str_none (aH I q (by simp))
  |bl j=>cases ry;exact PySem.EqMixed.eq_str_bool (aH I q (by simp))
  |int j=>obtain⟨t',rfl⟩:=ry;exact PySem.EqMixed.eq_str_int (aH I q (by simp))
  |str j=>obtain⟨t',rfl⟩:=ry;exact eq_str (aH I q mJ)
  |_=>exact absurd (show false=true from hs) uT
 |byt i=>
  obtain⟨t,rfl⟩:=rx;cases y with
  |byt j=>obtain⟨t',rfl⟩:=ry;exact PySem.W.eq_bytes (aH I q mL)
  |_=>exact absurd (show false=true from hs) uT
 |_=>cases y<;>exact absurd (show false=true from hs) uT
theorem mv:OpR X (compareOp .NotEq) rNe:=by
 intro pins s σ H x y v u Q I rx ry h;obtain⟨hs,q⟩:=h;cases x with
 |non=>
  cases rx;cases y with
  |non=>cases ry;exact PySem.EqNone.ne_none_none (aH I q (by simp))
  |bl j=>cases ry;exact PySem.EqNone.ne_none_bool (aH I q (by simp))
  |int j=>obtain⟨t',rfl⟩:=ry;exact PySem.EqNone.ne_none_int (aH I q (by simp))
  |str j=>obtain⟨t',rfl⟩:=ry;exact PySem.EqNone.ne_none_str (aH I q (by simp))
  |_=>exact absurd (show false=true from hs) uT
 |bl i=>
  cases rx;cases y with
  |non=>cases ry;exact PySem.EqNone.ne_bool_none (aH I q (by simp))
  |bl j=>cases ry;exact ne_bool (aH I q (congrArg not pF))
  |str j=>obtain⟨t',rfl⟩:=ry;exact PySem.EqMixed.ne_bool_str (aH I q (by simp))
  |_=>exact absurd (show false=true from hs) uT
 |int i=>
  obtain⟨t,rfl⟩:=rx;cases y with
  |non=>cases ry;exact PySem.EqNone.ne_int_none (aH I q (by simp))
  |int j=>obtain⟨t',rfl⟩:=ry;exact ne_int (aH I q (congrArg not mK))
  |str j=>obtain⟨t',rfl⟩:=ry;exact PySem.EqMixed.ne_int_str (aH I q (by simp))
  |_=>exact absurd (show false=true from hs) uT
 |str i=>
  obtain⟨t,rfl⟩:=rx;cases y with
  |non=>cases ry;exact PySem.EqNone.ne_str_none (aH I q (by simp))
  |bl j=>cases ry;exact PySem.EqMixed.ne_str_bool (aH I q (by simp))
  |int j=>obtain⟨t',rfl⟩:=ry;exact PySem.EqMixed.ne_str_int (aH I q (by simp))
  |str j=>obtain⟨t',rfl⟩:=ry;exact ne_str (aH I q (congrArg not mJ))
  |_=>exact absurd (show false=true from hs) uT
 |byt i=>
  obtain⟨t,rfl⟩:=rx;cases y with
  |byt j=>obtain⟨t',rfl⟩:=ry;exact PySem.W.ne_bytes (aH I q (congrArg not mL))
  |_=>exact absurd (show false=true from hs) uT
 |_=>cases y<;>exact absurd (show false=true from hs) uT
theorem oB:OpR X (compareOp .Lt) (rI0 fun i j=>.bl (decide (i<j))):=qm fun _ _ _ _ _ _ _ q=>lt_int q
theorem mw:OpR X (compareOp .LtE) (rI0 fun i j=>.bl (decide (i<=j))):=qm fun _ _ _ _ _ _ _ q=>le_int q
theorem oC:OpR X (compareOp .Gt) (rI0 fun i j=>.bl (decide (j<i))):=qm fun _ _ _ _ _ _ _ q=>gt_int q
theorem tJ:OpR X (compareOp .GtE) (rI0 fun i j=>.bl (decide (j<=i))):=qm fun _ _ _ _ _ _ _ q=>ge_int q
theorem aG(b:Expr){op:CmpOp}(h:op≠ .In:=by decide)(h2:op≠ .NotIn:=by decide):behindInMarks op b=false:=by
 have e1:(op==CmpOp.In)=false:=by cases op<;>first|rfl|exact absurd rfl h
 have e2:(op==CmpOp.NotIn)=false:=by cases op<;>first|rfl|exact absurd rfl h2
 cases b<;>simp[behindInMarks,e1,e2]
theorem cB{op:CmpOp}{r:R2}(ho:OpR X (compareOp op) r)(ha:PE X a ta)(hb:PE X b tb)(hm:behindInMarks op b=false):PE X (.Compare a [op] [b] pos) (tOp r ta tb):=by intro pins s σ H Q I h;exact wpAny_Compare1 (sL ha hb I h fun v u s2 x y H2 I2 rx ry q=>ho pins s2 σ H2 x y v u Q I2 rx ry q) hm
def sU(t:TE):TT:=fun σ H Q=>t σ H fun x H'=>∃k,x=.bl k/\Q k H'
theorem aM{op:CmpOp}{r:R2}(ho:OpR X (compareOp op) r)(ha:PE X a ta)(hb:PE X b tb)(hm:behindInMarks op b=false):PT X (.Compare a [op] [b] pos) (sU (tOp r ta tb)):=by
 intro pins s σ H Q I h
 refine wpAny_isTrue_Compare1 (thn (ha pins s σ H _ I h) fun v s1 hPz=>L2.ep3 hPz fun x H1 I1 r1 q1=>thn (hb pins s1 σ H1 _ I1 q1) fun u s2 ⟨y,H2,I2,r2,q2⟩=>thn (ho pins s2 σ H2 x y v u _ I2 r1 r2 q2) fun c s3 ⟨z,H3,I3,r3,k,e,q3⟩=>?_) hm
 subst e;cases r3;exact wG ⟨H3,I3,q3⟩
def rD(r r':R2)(ta tb tc:TE):TE:=fun σ H Q=>ta σ H fun x H1=>tb σ H1 fun y H2=>r x y H2 fun z H3=>∃k,z=.bl k/\
 (if k=true then tc σ H3 fun w' H4=>r' y w' H4 Q else Q (.bl false) H3)
theorem j6{op op':CmpOp}{r r':R2}(ho:OpR X (compareOp op) r)(ho':OpR X (compareOp op') r')(ha:PE X a ta)(hb:PE X b tb)(hc:PE X c tc)
  (hm:lastMarks [op,op'] [b,c]=false:=by with_unfolding_all rfl):PE X (.Compare a [op,op'] [b,c] pos) (rD r r' ta tb tc):=by
 intro pins s σ H Q I h
 refine Compare_chain (thn (ha pins s σ H _ I h) fun v s1 hPz=>L2.ep3 hPz fun x H1 I1 r1 q1=>chain_link (thn (hb pins s1 σ H1 _ I1 q1) fun u s2 ⟨y,H2,I2,r2,q2⟩=>thn (ho pins s2 σ H2 x y v u _ I2 r1 r2 q2) fun d s3 ⟨z,H3,I3,r3,k,e,q3⟩=>?_)) hm
 subst e;cases r3;refine wG ?_;cases k with
 |false=>exact ite_ff ⟨.bl false,H3,I3,rfl,q3⟩
 |true=>exact ite_tt (chain_last (thn (hc pins s3 σ H3 _ I3 q3) fun w' s4 ⟨z',H4,I4,r4,q4⟩=>ho' pins s4 σ H4 y z' u w' Q I4 r2 r4 q4))
theorem lq:(sizeLine:Nat)<2^63:=by rw[wg];decide
theorem vals1{x:V}{us:List Value}(r:Vals [x] us):∃u,us=[u]/\RelV x u:=by
 cases r with
 |cons r1 r2=>cases r2;exact⟨_,rfl,r1⟩
theorem vals2{x y:V}{us:List Value}(r:Vals [x,y] us):∃u w',us=[u,w']/\RelV x u/\RelV y w':=by
 cases r with
 |cons r1 r2=>
  cases r2 with
  |cons r3 r4=>cases r4;exact⟨_,_,rfl,r1,r3⟩
end
structure sN(h:Heap)(x dx C:Addr)(mA:Str->Option Value):Prop where
 obj:h.get? x=some (PySem.W.instObj C dx)
 ns:h.Ns1 dx mA
 ne:dx≠x
theorem nC{h:Heap}{dx:Addr}{mA:Str->Option Value}(n:h.Ns1 dx mA):∃od,h.get? dx=some od/\∀name,PySem.W.lookIn name od=some (mA name):=by
 obtain⟨o,es,ep,ho,hd,hk,_,hm⟩:=n;refine⟨o,ho,fun name=>?_⟩;have e:=hm name;unfold nsFind findBy at e;rw[<-Array.find?_toList]at e;unfold PySem.W.lookIn;rw[hd];dsimp only;split
 ·rename_i y q;rw[q]at e;exact congrArg some e
 ·rename_i q;rw[q]at e;have a:es.toList.any (·.refKey)=false:=by
   rw[List.any_eq_false];intro y hy;obtain⟨z,t,hkey⟩:=hk y (Array.mem_toList_iff.mp hy);simp[DictEntry.refKey,hkey]
  have a':¬es.toList.any (·.refKey)=true:=by rw[a];exact uT
  rw[uK a'];exact congrArg some e
theorem sN.look{h:Heap}{x dx C:Addr}{mA:Str->Option Value}(I:sN h x dx C mA):∃od,PySem.W.InstAt h x (PySem.W.instObj C dx) C (some od)/\∀name,PySem.W.lookIn name od=some (mA name):=
 let ⟨od,ho,hl⟩:=nC I.ns
 ⟨od,⟨I.obj,rfl,rfl,ho⟩,hl⟩
section
variable{P:Program}{w:World}{H H':Hp}{h h':Heap}{a C dx:Addr}{fs fs':List (Str×V)}
theorem qM(hok:HOk P w H h)(e:H a=some (.ins C dx fs)):∃mA,sN h a dx C mA/\(∀f,sM (fs.lookup f) (mA f))/\PySem.Within mA (fs.map (·.1))/\fs.length<=1000/\H dx=some (.own a):=by obtain⟨d,z,ne,ob,mA,n,r,q⟩:=(show bN P w H h a (.ins C dx fs)from hok a _ e);exact⟨mA,⟨ob,n,ne⟩,r,q,z,d⟩
end
structure Cls(K:Frag)(C:Addr):Prop where
 pg:PySem.W.plainGet K C Str.empty=true
 hd:PySem.W.hasDictIn K C=true
 po:PySem.W.plainOver K C=true
 sa:PySem.W.findIn K (.ref C) "__setattr__"=some (some (.builtin "object.__setattr__"))
theorem Cls.get{K:Frag}{C:Addr}(c:Cls K C)(f:Str):PySem.W.plainGet K C f=true:=c.pg
section
variable{X:Cx}{pins:List (Addr×Obj)}{σ:St}{H:Hp}{s:Shared}{A:Around}{E:Value->Shared->Prop}{Q:Value->Shared->Prop}{c:Value}{b:Bool}
inductive dG(K:Frag)(H:Hp):V->Value->Prop where
 |non:dG K H .non (.type "NoneType")
 |bl (x:Bool):dG K H (.bl x) (.type "bool")
 |int (i:Int):dG K H (.int i) (.type "int")
 |str (x:Str):dG K H (.str x) (.type "str")
 |flt (x:UInt64):dG K H (.flt x) (.type "float")
 |lst {a:Addr} {xs:List V} (e:H a=some (.lst xs)):dG K H (.ref a) (.type "list")
 |frz {a:Addr} {o:Obj} {xs:List V} (e:H a=some (.frz o (.lst xs))):dG K H (.ref a) (.type "list")
 |tup {a:Addr} {xs:List V} (e:H a=some (.tup xs)):dG K H (.ref a) (.type "tuple")
 |dK {a:Addr} {kvs:List (Key×V)} (e:H a=some (.dK kvs)):dG K H (.ref a) (.type "dict")
 |dT {a:Addr} {kvs:List (List Key×V)} (e:H a=some (.dT kvs)):dG K H (.ref a) (.type "dict")
 |ins {a C dx:Addr} {fs:List (Str×V)} (e:H a=some (.ins C dx fs)) (cl:Cls K C) (ha:PySem.W.findIn K (.ref C) "__class__"=some (some (.builtin "object.__class__")))
  (hn:PySem.W.specialIn K (.builtin "object.__class__") "__get__"=some (some (.builtin "getset_descriptor.__get__"))) (htk:PySem.W.takesIn K (.builtin "object.__class__")=some true)
  (hm:PySem.W.mroIn K C (.type "object")=some true):dG K H (.ref a) (.ref C)
theorem nI{x:V}{u t:Value}(I:Inv X pins σ H s)(rx:RelV x u)(ty:dG X.K H x t)(e:kitOne X.K t c=some b)(h:∀tk,Q (.bool b) {s with toks:=tk}):
  wpAny (model X.prog X.w) A (call (.builtin "isinstance") [u,c]) Q E s:=by
 cases ty with
 |non=>cases (show u=Value.none from rx);exact vZ PySem.W.kitx_none I.kIn True.intro e (fun z=>nomatch z) h
 |bl y=>cases (show u=Value.bool y from rx);exact vZ PySem.W.kitx_bool I.kIn True.intro e (fun z=>nomatch z) h
 |int i=>obtain⟨t,q⟩:=(show ∃t,u=Value.int i t from rx);cases q;exact vZ PySem.W.kitx_int I.kIn True.intro e (fun z=>nomatch z) h
 |str y=>obtain⟨t,q⟩:=(show ∃t,u=Value.str y t from rx);cases q;exact vZ PySem.W.kitx_str I.kIn True.intro e (fun z=>nomatch z) h
 |flt y=>obtain⟨t,q⟩:=(show ∃t,u=Value.float y t from rx);cases q;exact vZ PySem.W.kitx_float I.kIn True.intro e (fun z=>nomatch z) h
 | @lst a xs ea=>cases (show u=Value.ref a from rx);obtain⟨_,_,n,_,h1⟩:=(show bN X.prog X.w H s.heap a (.lst xs)from I.hok a _ ea);exact vZ PySem.W.kitx_list I.kIn ⟨_,h1,rfl⟩ e (fun z=>nomatch z) h
 | @frz a ob xs ea=>cases (show u=Value.ref a from rx);obtain⟨_,_,_,n,_,h1⟩:=(show bN X.prog X.w H s.heap a (.frz ob (.lst xs))from I.hok a _ ea);exact vZ PySem.W.kitx_list I.kIn ⟨_,h1,rfl⟩ e (fun z=>nomatch z) h
 | @tup a xs ea=>cases (show u=Value.ref a from rx);obtain⟨_,_,_,p⟩:=(show bN X.prog X.w H s.heap a (.tup xs)from I.hok a _ ea);obtain⟨o,h1,h2,_⟩:=p;exact vZ PySem.W.kitx_tuple I.kIn ⟨o,h1,h2⟩ e (fun z=>nomatch z) h
 | @dK a kvs ea=>cases (show u=Value.ref a from rx);obtain⟨_,_,vs,_,p⟩:=(show bN X.prog X.w H s.heap a (.dK kvs)from I.hok a _ ea);obtain⟨o,es,ep,h1,h2,_⟩:=p;exact vZ PySem.W.kitx_dict I.kIn ⟨o,h1,h2.1⟩ e (fun z=>nomatch z) h
 | @dT a kvs ea=>cases (show u=Value.ref a from rx);obtain⟨_,_,xs,_,o,es,ep,h1,h2,_⟩:=(show bN X.prog X.w H s.heap a (.dT kvs)from I.hok a _ ea);exact vZ PySem.W.kitx_dict I.kIn ⟨o,h1,h2.1⟩ e (fun z=>nomatch z) h
 | @ins a C dx fs ea cl ha hn htk hm=>cases (show u=Value.ref a from rx);obtain⟨mA,O,_⟩:=qM I.hok ea;obtain⟨od,J,_⟩:=O.look;exact vZ (PySem.W.kitx_own (cl.get _) cl.hd ha hn htk hm) I.kIn J e (fun z=>nomatch z) h
end
structure dH(k:Nat)(A:Around):Prop where
 hd:A.handled=none
 dp:A.depth+3*k+5<recursionLimit
 un:A.units+16*k+200<cLine
theorem dH.mono{j k:Nat}{A:Around}(r:dH k A)(h:j<=k):dH j A:=⟨r.hd,by have:=r.dp;omega,by have:=r.un;omega⟩
theorem dH.deeper{k:Nat}{A:Around}(r:dH (k+1) A)(env:Env):dH k (A.deeper env):=
 ⟨r.hd,by have:=r.dp;show A.depth+1+3*k+5<_;omega,by have:=r.un;show A.units+3+16*k+200<_;omega⟩
theorem dH.depth{k:Nat}{A:Around}(r:dH k A):A.depth<recursionLimit:=by have:=r.dp;omega
theorem dH.units{k:Nat}{A:Around}(r:dH k A):A.units+64<cLine:=by have:=r.un;omega
def uj:TA:=fun _ H Q=>Q [] H
def th(ta:TE)(tr:TA):TA:=fun σ H Q=>ta σ H fun x H1=>tr σ H1 fun xs H2=>Q (x::xs) H2
section
variable{X:Cx}{e:Expr}{es:List Expr}{te:TE}{t:TA}{pos:Pos}
theorem ag:PA X [] uj:=fun _ _ _ _ H Q I h=>Calls.spliced_nil ⟨[],H,I,.nil,h⟩
theorem aa(ha:PE X e te)(hr:PA X es t)(hs:starEach (e::es) X.env=(false,eval e X.env)::starEach es X.env:=by rfl):PA X (e::es) (th te t):=by intro pos pins s σ H Q I h;rw[hs];show wpAny _ _ (spliced ((false,eval e X.env)::backTo pos (starEach es X.env))) _ _ s;refine Calls.spliced_cons (thn (ha pins s σ H _ I h) fun u s1 hPz=>?_);obtain⟨x,H1,I1,r1,q1⟩:=hPz;exact thn (hr pos pins s1 σ H1 _ I1 q1) fun us s2 hPz=>L2.ep3 hPz fun xs H2 I2 r2 q2=>⟨x::xs,H2,I2,.cons r1 r2,q2⟩
def ud(t:TA):TE:=fun σ H Q=>t σ H fun xs H1=>xs.length<=sizeLine/\∀p,H1 p=none->Q (.ref p) (upd H1 p (.tup xs))
def uk(t:TA):TE:=fun σ H Q=>t σ H fun xs H1=>xs.length<=sizeLine/\∀p,H1 p=none->Q (.ref p) (upd H1 p (.lst xs))
theorem aV{x1}(h:PA X es t):PE X (.Tuple es x1 pos) (ud t):=by intro pins s σ H Q I hq;refine wpAny_Tuple_spliced (thn (h pos pins s σ H _ I hq) fun us s1 ⟨xs,H1,I1,r,z,q⟩=>⟨by rw[<-r.length];exact z,?_⟩);have hf:H1 s1.heap.objs.size=none:=I1.hok.fresh (uW _);refine⟨.ref s1.heap.objs.size,upd H1 s1.heap.objs.size (.tup xs),I1.laid (t':=s1.toks) (fun b u e=>uI _ e) (uW _) ?_,rfl,q _ hf⟩;exact⟨z,us,r,⟨_,vj _ rfl,rfl,_,rfl⟩⟩
theorem cQ(h:PA X es t):PE X (.List es pos) (uk t):=by intro pins s σ H Q I hq;refine wpAny_List_spliced (thn (h pos pins s σ H _ I hq) fun us s1 ⟨xs,H1,I1,r,z,q⟩=>⟨by rw[<-r.length];exact z,?_⟩);have hf:H1 s1.heap.objs.size=none:=I1.hok.fresh (uW _);refine⟨.ref s1.heap.objs.size,upd H1 s1.heap.objs.size (.lst xs),I1.laid (t':=s1.toks) (fun b u e=>uI _ e) (uW _) ?_,rfl,q _ hf⟩;exact⟨z,us,0,r,vj _ rfl⟩
end
noncomputable abbrev Sp:=List V->Hp->VK->XK->Prop
noncomputable abbrev CXT:=List Env->Hp->Shared->XK->Value->Shared->Prop
structure rj(P:Program)(w:World)(K:Frag)(mg:Str->Option Value)(base:Heap)(A:Around)(outer:List Env)(s:Shared)(H:Hp):Prop where
 frames:A.frames=some outer
 mod:Mod K mg base
 bs:∀b o,base.get? b=some o->s.heap.get? b=some o/\H b=none
 bsz:base.objs.size<=s.heap.objs.size
 funs:s.heap.FunFrames base outer
 frf:∀b∈frs outer,H b=none
 hok:HOk P w H s.heap
 bare:AllBare s.gens
def CE(outer:List Env)(P:Program)(w:World)(H:Hp)(s:Shared)(Q:VK)(u:Value)(s':Shared):Prop:=
 ∃v H',s'.os=s.os/\AllBare s'.gens/\Un (frs outer) [] H H' s.heap s'.heap/\HOk P w H' s'.heap/\RelV v u/\Q v H'
def CR(CX:CXT)(outer:List Env)(P:Program)(w:World)(H:Hp)(s:Shared)(Q:VK)(E:XK)(r:Result)(s':Shared):Prop:=
 match r with
 | .ok (.ret u)=>CE outer P w H s Q u s'
 | .ok _=>False
 | .error e=>CX outer H s E e s'
structure jN(P:Program)(w:World)(K:Frag)(mg:Str->Option Value)(base:Heap)(CX:CXT)(k:Nat)(f:Addr)(fd:FuncData)(ps:List Str)(sp:Sp):Prop where
 len:∀vs H Q E,sp vs H Q E->vs.length=ps.length
 run:∀(A:Around)(outer:List Env)(s:Shared)(H:Hp)(args:Args)(us:List Value)(vs:List V)(Q:VK)(E:XK),dH k A->rj P w K mg base A outer s H->BindsTo s fd args (ps.zip us)->Vals vs us->sp vs H Q E->
  codeAny (model P w) A (.call (.ref f) args) (CR CX outer P w H s Q E) s
section
variable{X:Cx}{pins:List (Addr×Obj)}{σ:St}{H:Hp}{s s':Shared}
theorem Inv.env0(I:Inv X pins σ H s):rj X.prog X.w X.K X.mg X.base X.A X.stack s H:=
 ⟨I.ok.frames,I.ok.mod,I.bs,wF I.ok.bsz I.sz,I.stack,I.stkFree,I.hok,I.bare⟩
theorem Inv.after{Q:VK}{u:Value}(I:Inv X pins σ H s)(h:CE X.stack X.prog X.w H s Q u s'):EP X pins σ Q u s':=by obtain⟨v,H',os,bare,un,hok,r,q⟩:=h;obtain⟨hh,g,d,t,os'⟩:=s';obtain rfl:os'=s.os:=os;exact⟨v,H',I.call (h':=hh) (g':=g) (d':=d) (t':=t) (ch:=[]) un hok bare (fun b z=>absurd z (by simp)),r,q⟩
end
def nV(sp:Sp)(dvs:List V)(E:XK)(t:TA):TE:=fun σ H Q=>t σ H fun vs H1=>sp (vs++dvs) H1 Q E
def Binds(K:Frag)(fd:FuncData)(ps:List Str)(ds:List Value):Prop:=
 ∀(s:Shared)(us:List Value),K.In s.heap->(us++ds).length=ps.length->BindsTo s fd ⟨us,[]⟩ (ps.zip (us++ds))
theorem Binds.all{K:Frag}{fd:FuncData}{ps:List Str}(h:∀us:List Value,us.length=ps.length->bindArgs fd ⟨us,[]⟩=pure (ps.zip us)):Binds K fd ps []:=fun s us _ hl=>by rw[vG]at hl ⊢;exact .of_eq (h us hl)
def Passes(CX:CXT)(X:Cx)(E:XK):Prop:=∀(pins:List (Addr×Obj))(σ:St)(H:Hp)(s:Shared)(e:Value)(s':Shared),Inv X pins σ H s->CX X.stack H s E e s'->X.xe e s'
section
variable{X:Cx}{CX:CXT}{k:Nat}{f C:Addr}{fd:FuncData}{ps:List Str}{sp:Sp}{dvs:List V}{ds:List Value}{E:XK}{x m:Str}{p pos apos:Pos}{e o:Expr}{es:List Expr}{ta:TE}{t:TA}
theorem rG{pins:List (Addr×Obj)}{σ:St}{H:Hp}{s:Shared}{Q:VK}{us:List Value}{vs:List V}(F:jN X.prog X.w X.K X.mg X.base CX k f fd ps sp)(hr:dH k X.A)(hb:Binds X.K fd ps ds)(hd:Vals dvs ds)(hx:Passes CX X E)
  (I:Inv X pins σ H s) (r:Vals vs us) (h:sp (vs++dvs) H Q E):wpAny (model X.prog X.w) X.A (call (.ref f) us) (EP X pins σ Q) X.xe s:=by
 have r2:Vals (vs++dvs) (us++ds):=r.append hd;have hl:(us++ds).length=ps.length:=by rw[<-r2.length];exact F.len _ _ _ _ h
 refine wpAny_call (codeAny_mono (F.run X.A X.stack s H ⟨us,[]⟩ (us++ds) (vs++dvs) Q E hr I.env0 (hb s us I.kIn hl) r2 h) fun r s' hq=>?_);cases r with
 |error e=>exact hx pins σ H s e s' I hq
 |ok fl=>
  cases fl with
  |ret u=>exact I.after hq
  |next=>exact False.elim hq
  |brk=>exact False.elim hq
  |cont=>exact False.elim hq
theorem qk(F:jN X.prog X.w X.K X.mg X.base CX k f fd ps sp)(hr:dH k X.A)(hg:Gl X x)(hm:X.mg x=some (.ref f))(hk:keepIn X.K (.ref f)=true)(hb:Binds X.K fd ps ds)(hd:Vals dvs ds)(hx:Passes CX X E)
  (ha:PA X (e::es) t) (hdb:(x==("__debug__":Str))=false:=by decide) (he:starEach (e::es) X.env=(false,eval e X.env)::starEach es X.env:=by rfl) (hpl:(backTo pos (starEach es X.env)).any (·.1)=false:=by rfl):
  PE X (.Call (.Name x p) (e::es) [] pos) (nV sp dvs E t):=by
 intro pins s σ H Q I h;refine wpAny_Call_Name_kw (qF I hg hm ?_ hdb);refine PySem.W.callWith_K (h₀:=X.base) I.ok.mod.kin hk (thn (ha pos pins s σ H _ I h) fun us s1 hPz=>L2.ep3 hPz fun vs H1 I1 r q=>⟨I1.kIn,?_⟩) he hpl;exact rG F hr hb hd hx I1 r q
end
structure aB(N P:List Str)(sc:Scope):Prop where
 kind:sc.kind=.function
 co:sc.isCoroutine=false
 gen:sc.isGenerator=false
 nd:N.Nodup
 pre:N.take P.length=P
 par:∀x∈P,sc.names.lookup x=some .local\/sc.names.lookup x=some .cell
 nofree:∀y∈sc.names,y.2≠ .free
theorem i6{kindOf:Str->Option NameKind}{x:Str}:∀{binds:List (Str×Value)}{m:Str->Option Value},(∀v,(x,v)∉binds)->bindL kindOf binds m x=m x
 | [],_,_=>rfl
 |(n,v)::r,m,h=>by
  unfold bindL;rw[i6 fun w hw=>h w (uL _ hw)];split
  ·have:x≠n:=(by rintro rfl;exact h v uN);simp[this]
  ·rfl
theorem i8{kindOf:Str->Option NameKind}{x:Str}:∀{binds:List (Str×Value)}{m:Str->Option Value},(∀v,(x,v)∉binds)->bindC kindOf binds m x=m x
 | [],_,_=>rfl
 |(n,v)::r,m,h=>by
  unfold bindC;rw[i8 fun w hw=>h w (uL _ hw)];split
  ·rfl
  ·have:x≠n:=(by rintro rfl;exact h v uN);simp[this]
theorem i7{kindOf:Str->Option NameKind}{x:Str}{v:Value}:∀{P:List Str}{vs:List Value}{i:Nat}{m:Str->Option Value},P.Nodup->P[i]?=some x->vs[i]?=some v->kindOf x=some .local->
  bindL kindOf (P.zip vs) m x=some v
 | [],_,_,_,_,h,_,_=>by simp at h
 |_::_,[],_,_,_,_,h,_=>by simp at h
 |p::P,w::vs,0,m,nd,h1,h2,hk=>by simp at h1 h2;subst h1;subst h2;show bindL kindOf ((p,w)::P.zip vs) m p=_;unfold bindL;rw[i6 fun v hv=>(vM.mp nd).1 (List.of_mem_zip hv).1,uM hk];simp
 |p::P,w::vs,i+1,m,nd,h1,h2,hk=>by show bindL kindOf ((p,w)::P.zip vs) m x=_;unfold bindL;exact i7 (i:=i) (vM.mp nd).2 (by simpa using h1) (by simpa using h2) hk
theorem i9{kindOf:Str->Option NameKind}{x:Str}{v:Value}:∀{P:List Str}{vs:List Value}{i:Nat}{m:Str->Option Value},P.Nodup->P[i]?=some x->vs[i]?=some v->kindOf x≠some .local->
  bindC kindOf (P.zip vs) m x=some v
 | [],_,_,_,_,h,_,_=>by simp at h
 |_::_,[],_,_,_,_,h,_=>by simp at h
 |p::P,w::vs,0,m,nd,h1,h2,hk=>by simp at h1 h2;subst h1;subst h2;show bindC kindOf ((p,w)::P.zip vs) m p=_;unfold bindC;rw[i8 fun v hv=>(vM.mp nd).1 (List.of_mem_zip hv).1,uK hk];simp
 |p::P,w::vs,i+1,m,nd,h1,h2,hk=>by show bindC kindOf ((p,w)::P.zip vs) m x=_;unfold bindC;exact i9 (i:=i) (vM.mp nd).2 (by simpa using h1) (by simpa using h2) hk
noncomputable def start(N:List Str)(vs:List V):St:=vs.map some++List.replicate (N.length-vs.length) none
noncomputable def lJ(CX:CXT)(P:Program)(w:World)(K:Frag)(mg:Str->Option Value)(base:Heap)(N:List Str)(qual:Str)(scope:Scope)(f:Addr)(cd:Value)(A:Around)(outer:List Env)(s:Shared)(H:Hp)(E:XK):Cx where
 prog:=P
 w:=w
 K:=K
 mg:=mg
 base:=base
 A:=A.deeper (envOfC qual scope s.heap.objs.size f cd)
 N:=N
 s₀:=s
 H₀:=H
 env:=envOfC qual scope s.heap.objs.size f cd
 outer:=outer
 stack:=envOfC qual scope s.heap.objs.size f cd::outer
 ex:=[]
 calm:=true
 fn:=fun _=>true
 pn:=[]
 xe:=fun e s'=>wpAny (model P w) (A.deeper (envOfC qual scope s.heap.objs.size f cd)) (leaving (envOfC qual scope s.heap.objs.size f cd) e) (fun _ s''=>CX outer H s E e s'') (fun e' s''=>CX outer H s E e' s'') s'
theorem kH{sc:Scope}{n:Nat}{x:Str}(h:sc.names.lookup x=some .cell):∃c,(cellsFrom n sc.names []).lookup x=some c:=by have q:=PySem.W.cellsFrom_some sc.names n [] (.inl h);exact Option.isSome_iff_exists.mp q
theorem nJ{CX:CXT}{P:Program}{w:World}{K:Frag}{mg:Str->Option Value}{base:Heap}{N ps:List Str}{qual:Str}{scope:Scope}{f:Addr}{cd:Value}{A:Around}{outer:List Env}{s s1:Shared}{H:Hp}{E:XK}{us:List Value}{vs:List V}
  (S:aB N ps scope) (hd:A.handled=none) (e0:rj P w K mg base A outer s H) (hl:vs.length=ps.length) (r:Vals vs us)
  (x:InCallC s s.heap.objs.size (bindL (envOfC qual scope s.heap.objs.size f cd).kindOf (ps.zip us) fun _=>none) (cellsFrom (s.heap.objs.size+1) scope.names []) (bindC (envOfC qual scope s.heap.objs.size f cd).kindOf (ps.zip us) fun _=>none) s1):
  Inv (lJ CX P w K mg base N qual scope f cd A outer s H E) [] (start N vs) H s1:=by
 have hpl:ps.length<=N.length:=by have:=congrArg List.length S.pre;rw[vb]at this;omega
 obtain⟨h1,tk,rfl,hk⟩:=x.done;have noA:∀b:Addr,b∉(lJ CX P w K mg base N qual scope f cd A outer s H E).ex:=fun b z=>absurd (show b∈([]:List Addr)from z) (by simp)
 refine⟨⟨e0.mod,S.kind,rfl,rfl,uW _,fun y z c h1 h2=>?_,fun y hy=>?_,fun y c _ h=>?_,fun _=>hd,Around.frames_deeper e0.frames,.inr ⟨rfl,rfl⟩,fun b z=>absurd z (noA b),e0.bs,e0.bsz,fun b _ _=>noA b,fun b z=>absurd z (noA b),e0.funs,e0.frf⟩,
  rfl,e0.bare,Un.kept hk,⟨_,x.toInCall.ns,fun i y v h1 h2 h3=>?_⟩,fun y c h=>⟨_,x.cell y c h⟩,e0.hok.fresh (uW _),fun y c h=>?_,fun p hp=>absurd (show p∈([]:List (Addr×Obj))from hp) (by simp),e0.hok.kept hk,?_⟩
 ·exact name_of_addr x.apart (wI h1) (wI h2)
 ·have hy:scope.names.lookup y=some .cell\/scope.names.lookup y=some .free:=hy;rcases hy with hy|hy
  ·exact kH hy
  ·exact absurd rfl (S.nofree _ (wI hy))
 ·exact Nat.le_of_lt (x.above y c (wI h))
 ·have hi:i<vs.length:=by
   unfold start at h2;by_cases hi:i<vs.length
   ·exact hi
   ·rw[wM (by simpa using hi)]at h2;rw[List.getElem?_replicate]at h2;split at h2<;>cases h2
  have ha:vs[i]?=some v:=by
   unfold start at h2;rw[List.getElem?_append_left (by simpa using hi),vz]at h2;cases e:vs[i]? with
   |none=>rw[e]at h2;cases h2
   |some a=>rw[e]at h2;cases h2;rfl
  obtain⟨u,hu,rv⟩:=r.get ha;have hp:ps[i]?=some y:=by rw[<-S.pre,wz (by omega)];exact h1
  have ndP:ps.Nodup:=by rw[<-S.pre];exact S.nd.sublist (List.take_sublist _ _)
  refine⟨u,rv,?_⟩;rcases S.par y (vi hp)with k|k
  ·exact .inl ⟨k,i7 ndP hp hu k⟩
  ·obtain⟨c,e⟩:=kH (n:=s.heap.objs.size+1) k;refine .inr ⟨.inl k,c,e,?_⟩;have q:=x.cell y c e;rw[i9 ndP hp hu (by show scope.names.lookup y≠_;rw[k];decide)]at q;exact q
 ·exact e0.hok.fresh (Nat.le_of_lt (x.above y c (wI h)))
 ·unfold start;show _=N.length;rw[uO,uF,List.length_replicate];omega
theorem tX{CX:CXT}{P:Program}{w:World}{K:Frag}{mg:Str->Option Value}{base:Heap}{k:Nat}{f:Addr}{name qual:Str}{params:Arguments}{body:List Stmt}{scope:Scope}{dV kV doc pm cdv ct oc:Value}{an od:Option Addr}
  {osl:Array (Option Value)} {N ps:List Str} {sp:Sp} (lk:K.lookup f=some ⟨oc,od,.func (fnOf name qual params body scope dV kV doc pm an cdv ct),osl⟩) (hcd:codeIn K cdv qual=true) (S:aB N ps scope)
  (len:∀vs H Q E,sp vs H Q E->vs.length=ps.length)
  (hbody:∀(A:Around)(outer:List Env)(s:Shared)(H:Hp)(vs:List V)(Q:VK)(E:XK),dH k (A.deeper (envOfC qual scope s.heap.objs.size f cdv))->sp vs H Q E->
   ∃t,PSs (lJ CX P w K mg base N qual scope f cdv A outer s H E) body t/\t {nx:=fun _ H'=>Q .non H',rt:=Q} (start N vs) H):
  jN P w K mg base CX (k+1) f (fnOf name qual params body scope dV kV doc pm an cdv ct) ps sp:=by
 refine⟨len,fun A outer s H args us vs Q E hr e0 hb r hsp=>?_⟩;have hl:=len _ _ _ _ hsp;have KX:K.In s.heap:=e0.mod.kin.keeps fun b o e=>(e0.bs b o e).1;have lim:s.heap.NoLimit:=e0.mod.nolimit.keeps fun b o e=>(e0.bs b o e).1;have hkind:∀y∈ps.zip us,scope.names.lookup y.1=some .local\/(scope.names.lookup y.1=some .cell/\((cellsFrom (s.heap.objs.size+1) scope.names []).lookup y.1).isSome=true):=fun⟨n,v⟩ hy=>by
  rcases S.par n (List.of_mem_zip hy).1 with q|q
  ·exact .inl q
  ·exact .inr ⟨q,PySem.W.cellsFrom_some _ _ _ (.inl q)⟩
 refine codeAny_call_function hr.depth (KX _ _ lk) rfl S.co S.gen rfl (PySem.W.codeRec_of KX hcd) (hb _ _ _ _ ?_);refine wpAny_newFunctionEnv_cells S.kind hkind fun env he s1 x=>?_;subst he;refine⟨lim.keeps x.toInCall.keep,codeAny_func ?_⟩;obtain⟨t,ht,hq⟩:=hbody A outer s H vs Q E (hr.deeper _) hsp;have I:Inv (lJ CX P w K mg base N qual scope f cdv A outer s H E) [] (start N vs) H s1:=nJ S hr.hd e0 hl r x;refine v8 (ht [] s1 (start N vs) H _ I hq) (fun fl s' hs=>?_) fun e s' hs=>hs;have fin:∀{σ':St}{H':Hp}{v:V}{u:Value},Inv (lJ CX P w K mg base N qual scope f cdv A outer s H E) [] σ' H' s'->RelV v u->Q v H'->CE outer P w H s Q u s':=
  fun {σ' H' v u} J rv q=>⟨v,H',J.os,J.bare,J.base,J.hok,rv,q⟩
 cases fl with
 |ret u=>obtain⟨v,σ',H',J,rv,q⟩:=hs;exact fin J rv q
 |next=>obtain⟨σ',H',J,q⟩:=hs;exact fin (v:=V.non) (u:=Value.none) J rfl q
 |brk=>obtain⟨_,_,_,q⟩:=hs;exact False.elim q
 |cont=>obtain⟨_,_,_,q⟩:=hs;exact False.elim q
section
variable{X:Cx}{x:Str}{p pos:Pos}{e:Expr}{es:List Expr}{t:TA}{id T:String}{r:List V->Hp->VK->Prop}
def tCB(r:List V->Hp->VK->Prop)(t:TA):TE:=fun σ H Q=>t σ H fun vs H1=>r vs H1 Q
theorem a7(hc:eI X (.builtin id) r)(hg:Gl X x)(hm:X.mg x=none)(hv:bootBuiltins x=some (.builtin id))(ha:PA X (e::es) t)(hn:x≠"__name__":=by decide)(hdb:(x==("__debug__":Str))=false:=by decide)
  (he:starEach (e::es) X.env=(false,eval e X.env)::starEach es X.env:=by rfl) (hpl:(backTo pos (starEach es X.env)).any (·.1)=false:=by rfl):PE X (.Call (.Name x p) (e::es) [] pos) (tCB r t):=by
 intro pins s σ H Q I h;refine wpAny_Call_Name_kw (gZ I hg hm hv ?_ hn hdb);exact PyProof.Rows.callWith_builtin1 (thn (ha pos pins s σ H _ I h) fun us s1 hPz=>L2.ep3 hPz fun vs H1 I1 r1 q1=>hc pins s1 σ H1 vs us Q I1 r1 q1) he hpl
theorem iN(hc:eI X (.type T) r)(hg:Gl X x)(hm:X.mg x=none)(hv:bootBuiltins x=some (.type T))(ha:PA X (e::es) t)(hn:x≠"__name__":=by decide)(hdb:(x==("__debug__":Str))=false:=by decide)
  (he:starEach (e::es) X.env=(false,eval e X.env)::starEach es X.env:=by rfl) (hpl:(backTo pos (starEach es X.env)).any (·.1)=false:=by rfl):PE X (.Call (.Name x p) (e::es) [] pos) (tCB r t):=by
 intro pins s σ H Q I h;refine wpAny_Call_Name_kw (gZ I hg hm hv ?_ hn hdb);exact PyProof.Rows.callWith_type1 (thn (ha pos pins s σ H _ I h) fun us s1 hPz=>L2.ep3 hPz fun vs H1 I1 r1 q1=>hc pins s1 σ H1 vs us Q I1 r1 q1) he hpl
end
theorem intsAre_of{ns:List Int}:∀{us:List Value},Vals (ns.map V.int) us->IntsAre us ns:=by
 induction ns with
 |nil=>intro us r;rw[List.map_nil]at r;cases r;exact .nil
 |cons n ns ih=>
  intro us r;rw[vp]at r;cases r with
  |cons r1 r2=>obtain⟨t,e⟩:=r1;subst e;exact .cons n t (ih r2)
noncomputable def ixN(n:Nat)(i:Int):Option Nat:=if 0<=i then(if i<n then some i.toNat else none)else if-(n:Int)<=i then some (i+n).toNat else none
noncomputable def atI{α:Type}(xs:List α)(i:Int):Option α:=(ixN xs.length i).bind fun j=>xs[j]?
theorem qL{n:Nat}{i:Int}{j:Nat}(h:ixN n i=some j):seqIndex? i n=some j/\j<n/\ -(n:Int)<=i/\i<n:=by
 unfold ixN at h;by_cases h0:0<=i
 ·rw[uM h0]at h;by_cases h1:i<n
  ·rw[uM h1]at h;have e:i.toNat=j:=wj h;exact⟨by rw[seqIndex_of h0 h1,e],by omega,by omega,h1⟩
  ·rw[uK h1]at h;cases h
 ·rw[uK h0]at h;by_cases h1: -(n:Int)<=i
  ·rw[uM h1]at h;have e:(i+n).toNat=j:=wj h;exact⟨by rw[seqIndex_neg (by omega) h1,e],by omega,h1,by omega⟩
  ·rw[uK h1]at h;cases h
theorem mT{α:Type}{xs:List α}{i:Int}{v:α}(h:atI xs i=some v):∃j,seqIndex? i xs.length=some j/\xs[j]?=some v/\j<xs.length/\ -(xs.length:Int)<=i/\i<xs.length:=by
 unfold atI at h;cases e:ixN xs.length i with
 |none=>rw[e]at h;cases h
 |some j=>rw[e]at h;obtain⟨h1,h2,h3,h4⟩:=qL e;exact⟨j,h1,h,h2,h3,h4⟩
theorem aA{α:Type}{xs:List α}{j:Nat}{v:α}(h:xs[j]?=some v):atI xs (j:Int)=some v:=by
 have hj:j<xs.length:=(uS.mp h).1;have e:ixN xs.length (j:Int)=some j:=by unfold ixN;rw[uM (by omega),uM (by omega)];simp
 unfold atI;rw[e];exact h
theorem pM{α:Type}(xs:List α)(v:α):atI (xs++[v]) (-1)=some v:=by
 have hl:(xs++[v]).length=xs.length+1:=by simp
 have e:ixN (xs++[v]).length (-1)=some xs.length:=by unfold ixN;rw[hl,uK (by decide),uM (by omega)];congr 1;omega
 unfold atI;rw[e];show(xs++[v])[xs.length]?=some v;simp
def qZ(b:Expr):Prop:=∀o i,subscripted b false o i=operate [o,i] (getItem o i)
def IxR(X:Cx)(r:R2):Prop:=
 ∀(value slice:Expr)(pins:List (Addr×Obj))(s:Shared)(σ:St)(H:Hp)(x y:V)(v u:Value)(Q:VK),Inv X pins σ H s->RelV x v->RelV y u->r x y H Q->
  subscripted slice false v u=operate [v,u] (getItem v u)->wpAny (model X.prog X.w) X.A (subscriptTail value slice v u) (EP X pins σ Q) X.xe s
def MtR(X:Cx)(id:String)(r:V->List V->Hp->VK->Prop):Prop:=
 ∀(pins:List (Addr×Obj))(s:Shared)(σ:St)(H:Hp)(x:V)(xs:List V)(v:Value)(us:List Value)(Q:VK),Inv X pins σ H s->RelV x v->Vals xs us->r x xs H Q->
  wpAny (model X.prog X.w) X.A (call (.builtin id) (v::us)) (EP X pins σ Q) X.xe s
section
variable{X:Cx}{a b:Expr}{ta tb:TE}{pos:Pos}
theorem aR{r:R2}(hr:IxR X r)(ha:PE X a ta)(hb:PE X b tb)(hs:qZ b):PE X (.Subscript a b pos) (tOp r ta tb):=by intro pins s σ H Q I h;exact Subscript_ (sL ha hb I h fun v u s2 x y H2 I2 rx ry q=>hr a b pins s2 σ H2 x y v u Q I2 rx ry q (hs _ _))
noncomputable def tF(K:Frag):R2:=fun x y H Q=>∃p xs i v,x=.ref p/\y=.int i/\SqL K H p xs/\atI xs i=some v/\Q v H
noncomputable def tE(K:Frag):R2:=fun x y H Q=>∃p xs i v,x=.ref p/\y=.int i/\SqT K H p xs/\atI xs i=some v/\Q v H
theorem eO:IxR X (tF X.K):=by
 intro value slice pins s σ H x y v u Q I rx ry h hs;obtain⟨p,xs,i,z,rfl,rfl,hq,he,q⟩:=h;cases rx;obtain⟨t,rfl⟩:=ry;obtain⟨its,r,pl,hz⟩:=I.list hq;obtain⟨j,h1,h2,h3,h4,h5⟩:=mT he;obtain⟨w,ew,rw'⟩:=r.get h2;have hl:=r.length;have hn:=lq;have fin:EP X pins σ Q w s:=⟨z,H,I,rw',q⟩;by_cases h0:0<=i
 ·have hj:i.toNat=j:=by
   rw[seqIndex_of h0 h5]at h1;exact wj h1
  exact item_listR pl.isList h0 (by omega) (by rw[hj];simpa using ew) fin hs
 ·have hj:(i+(its.toArray.size:Int)).toNat=j:=by
   rw[seqIndex_neg (by omega) h4]at h1;rw[uZ,<-hl];exact wj h1
  exact subscriptTail_builtinR (x:=w) pl.isList.typeIs slot_list_getitem.lookup
   (wpAny_getItem_list_neg (Q:=fun r s'=>r=w/\EP X pins σ Q r s') pl.isList (by omega) (by rw[uZ]<;>omega) (by omega) (by rw[hj];simpa using ew) ⟨rfl,fin⟩) hs
theorem aS:IxR X (tE X.K):=by
 intro value slice pins s σ H x y v u Q I rx ry h hs;obtain⟨p,xs,i,z,rfl,rfl,hq,he,q⟩:=h;cases rx;obtain⟨t,rfl⟩:=ry;obtain⟨its,r,pl,hz⟩:=I.tuple hq;obtain⟨j,h1,h2,h3,h4,h5⟩:=mT he;obtain⟨w,ew,rw'⟩:=r.get h2;have hl:=r.length;have hn:=lq;have fin:EP X pins σ Q w s:=⟨z,H,I,rw',q⟩;exact subscriptTail_builtinR (x:=w) pl.typeIs slot_tuple_getitem.lookup
  (getItem_tuple (j:=j) (Q:=fun r s'=>r=w/\EP X pins σ Q r s') pl (by omega) (by omega) (by rw[uZ,<-hl];exact h1) (by simpa using ew) ⟨rfl,fin⟩) hs
noncomputable def gr:V->Bool
 | .non=>true
 | .bl _=>true
 | .int _=>true
 | .str _=>true
 |_=>false
noncomputable def eqV:V->V->Bool
 | .non,.non=>true
 | .bl a,.bl b=>a==b
 | .bl a,.int b=>(if a then 1 else 0)==b
 | .int a,.bl b=>a==(if b then 1 else 0)
 | .int a,.int b=>a==b
 | .str a,.str b=>a==b
 |_,_=>false
theorem sF{A:Around}{s:Shared}{y x:V}{u v:Value}(ry:RelV y u)(rx:RelV x v)(fy:gr y=true)(fx:gr x=true):SeqAt.EqAt A s u v (eqV y x):=by
 cases y with
 |non=>
  cases ry;cases x with
  |non=>cases rx;exact SeqAt.EqAt.same _
  |bl b=>cases rx;exact SeqAt.EqAt.none_bool b
  |int b=>obtain⟨t,rfl⟩:=rx;exact SeqAt.EqAt.none_int b t
  |str b=>obtain⟨t,rfl⟩:=rx;exact SeqAt.EqAt.none_str b t
  |_=>exact absurd (show false=true from fx) uT
 |bl a=>
  cases ry;cases x with
  |non=>cases rx;exact SeqAt.EqAt.bool_none a
  |bl b=>cases rx;exact SeqAt.EqAt.bool_bool a b
  |int b=>obtain⟨t,rfl⟩:=rx;exact SeqAt.EqAt.bool_int a b t
  |str b=>obtain⟨t,rfl⟩:=rx;exact SeqAt.EqAt.bool_str a b t
  |_=>exact absurd (show false=true from fx) uT
 |int a=>
  obtain⟨t',rfl⟩:=ry;cases x with
  |non=>cases rx;exact SeqAt.EqAt.int_none a t'
  |bl b=>cases rx;exact SeqAt.EqAt.int_bool a t' b
  |int b=>obtain⟨t,rfl⟩:=rx;exact SeqAt.EqAt.int_int a t' b t
  |str b=>obtain⟨t,rfl⟩:=rx;exact SeqAt.EqAt.int_str a t' b t
  |_=>exact absurd (show false=true from fx) uT
 |str a=>
  obtain⟨t',rfl⟩:=ry;cases x with
  |non=>cases rx;exact SeqAt.EqAt.str_none a t'
  |bl b=>cases rx;exact SeqAt.EqAt.str_bool a t' b
  |int b=>obtain⟨t,rfl⟩:=rx;exact SeqAt.EqAt.str_int a t' b t
  |str b=>obtain⟨t,rfl⟩:=rx;exact SeqAt.EqAt.str_str a t' b t
  |_=>exact absurd (show false=true from fx) uT
 |_=>exact absurd (show false=true from fy) uT
noncomputable def eqU(x:V)(u:Value):Bool:=match u with
 | .none=>eqV .non x
 | .bool b=>eqV (.bl b) x
 | .int i _=>eqV (.int i) x
 | .str z _=>eqV (.str z) x
 |_=>false
theorem pD{x y:V}{u:Value}(r:RelV y u)(f:gr y=true):eqU x u=eqV y x:=by
 cases y with
 |non=>cases r;rfl
 |bl b=>cases r;rfl
 |int i=>obtain⟨t,rfl⟩:=r;rfl
 |str z=>obtain⟨t,rfl⟩:=r;rfl
 |_=>exact absurd (show false=true from f) uT
theorem jJ{x:V}:∀{xs:List V}{us:List Value},Vals xs us->xs.all gr=true->us.any (eqU x)=xs.any fun y=>eqV y x
 |_,_,.nil,_=>rfl
 |y::xs,u::us,.cons r t,f=>by rw[List.all_cons,vK]at f;rw[List.any_cons,List.any_cons,pD r f.1,jJ t f.2]
theorem gX{A:Around}{s:Shared}{x:V}{v:Value}(rx:RelV x v)(fx:gr x=true):∀{xs:List V}{us:List Value},Vals xs us->xs.all gr=true->∀u∈us,SeqAt.EqAt A s u v (eqU x u)
 |_,_,.nil,_=>fun u hu=>by cases hu
 |y::xs,u::us,.cons r t,f=>fun u' hu=>by
  rw[List.all_cons,vK]at f;rcases vn.mp hu with rfl|hu
  ·rw[pD r f.1];exact sF r rx f.1 fx
  ·exact gX rx fx t f.2 u' hu
noncomputable def inV(x:V)(xs:List V):Bool:=xs.any fun y=>eqV y x
noncomputable def rIn(K:Frag)(neg:Bool):R2:=fun x y H Q=>∃p xs,y=.ref p/\(SqL K H p xs\/SqT K H p xs)/\gr x=true/\xs.all gr=true/\Q (.bl (if neg then !inV x xs else inV x xs)) H
theorem iQ:OpR X (compareOp .In) (rIn X.K false):=by
 intro pins s σ H x y v u Q I rx ry h;obtain⟨p,xs,rfl,hq,fx,fs,q⟩:=h;cases ry;rcases hq with hq|hq
 ·obtain⟨its,r,pl,hz⟩:=I.list hq;refine SeqAt.in_listAt (eqU x) pl.isList (fun w hw=>gX rx fx r fs w (by simpa using hw)) ⟨.bl _,H,I,rfl,?_⟩;rw[show its.toArray.any (eqU x)=its.any (eqU x) by simp,jJ r fs];exact q
 ·obtain⟨its,r,pl,hz⟩:=I.tuple hq;refine SeqAt.in_tupleAt (eqU x) pl (fun w hw=>gX rx fx r fs w (by simpa using hw)) ⟨.bl _,H,I,rfl,?_⟩;rw[show its.toArray.any (eqU x)=its.any (eqU x) by simp,jJ r fs];exact q
theorem b7:eI X (.builtin "len") (fun xs H Q=>∃p ys,xs=[.ref p]/\(SqL X.K H p ys\/SqT X.K H p ys)/\Q (.int ys.length) H):=by
 intro pins s σ H xs us Q I r h;obtain⟨p,ys,rfl,hq,q⟩:=h;obtain⟨u,rfl,rx⟩:=vals1 r;cases rx;have hn:=lq;rcases hq with hq|hq
 ·obtain⟨its,r',pl,hz⟩:=I.list hq;have hlen:=r'.length;exact Calls.call_len_list pl.isList (by simp only[uZ]<;>omega) ⟨.int ys.length,H,I.tok _,⟨s.toks+1,by rw[uZ,hlen]⟩,q⟩
 ·obtain⟨its,r',pl,hz⟩:=I.tuple hq;have hlen:=r'.length;exact len_tuple pl (by simp only[uZ]<;>omega) ⟨.int ys.length,H,I.tok _,⟨s.toks+1,by rw[uZ,hlen]⟩,q⟩
theorem jG:eI X (.type "list") (fun xs H Q=>∃p ys,xs=[.ref p]/\(SqL X.K H p ys\/SqT X.K H p ys)/\∀l,H l=none->Q (.ref l) (upd H l (.lst ys))):=by
 intro pins s σ H xs us Q I r h;obtain⟨p,ys,rfl,hq,q⟩:=h;obtain⟨u,rfl,rx⟩:=vals1 r;cases rx;have fin:∀(its:List Value),Vals ys its->ys.length<=sizeLine->∀(h':Heap)(c':Nat),(∀b o',s.heap.get? b=some o'->h'.get? b=some o')->
   h'.get? s.heap.objs.size=some {cls:=.type "list",dict:=none,data:=.seq its.toArray c',slots:= #[]}->EP X pins σ Q (.ref s.heap.objs.size) {s with heap:=h'}:=fun its r' hz h' c' kp e=>
  ⟨.ref s.heap.objs.size,_,I.laid (t':=s.toks) kp (uW _) (show bN X.prog X.w _ h' _ (.lst ys)from⟨hz,its,c',r',e⟩),rfl,q _ (I.hok.fresh (uW _))⟩
 rcases hq with hq|hq
 ·obtain⟨its,r',pl,hz⟩:=I.list hq;have hlen:=r'.length;obtain⟨o,ho,hc,n,hd⟩:=pl.isList;exact call_list_seq p (.inl rfl) ho hc hd (fun h' c' kp e=>fin its r' hz h' c' kp e) (by simp only[uZ]<;>omega)
 ·obtain⟨its,r',pl,hz⟩:=I.tuple hq;have hlen:=r'.length;obtain⟨o,ho,hc,n,hd⟩:=pl;exact call_list_seq p (.inr rfl) ho hc hd (fun h' c' kp e=>fin its r' hz h' c' kp e) (by simp only[uZ]<;>omega)
def tyV(K:Frag)(T:String)(x:V)(H:Hp):Prop:=match x with
 | .str _=>T="str"
 | .int _=>T="int"
 | .ref p=>(T="list"/\∃xs,SqL K H p xs)\/(T="tuple"/\∃o,K.lookup p=some o/\o.cls=.type "tuple"/\o.dict=none)\/
  (T="dict"/\((∃kvs,H p=some (.dK kvs))\/∃kvs,H p=some (.dT kvs)))\/(T="set"/\∃S n,H p=some (.set S n))
 |_=>False
theorem nS{pins:List (Addr×Obj)}{σ:St}{H:Hp}{s:Shared}{T:String}{x:V}{v:Value}(I:Inv X pins σ H s)(r:RelV x v)(ty:tyV X.K T x H):
  s.TypeIs v T/\∀a,v=.ref a->∃ob,s.heap.get? a=some ob/\ob.dict=none:=by
 cases x with
 |str z=>obtain⟨t,rfl⟩:=r;cases (show T="str" from ty);exact⟨typeIs_str s z t,fun _ e=>nomatch e⟩
 |int i=>obtain⟨t,rfl⟩:=r;cases (show T="int" from ty);exact⟨typeIs_int s i t,fun _ e=>nomatch e⟩
 |ref p=>
  cases r;rcases ty with⟨rfl,xs,hq⟩|⟨rfl,o,hk,hc,hd⟩|⟨rfl,hk⟩|⟨rfl,S,n,hk⟩
  ·obtain⟨its,_,pl,_⟩:=I.list hq;refine⟨pl.isList.typeIs,fun a e=>?_⟩;cases e;obtain⟨o,n,e,c,hd,_⟩:=pl;exact⟨o,e,hd⟩
  ·refine⟨⟨o,I.kIn p o hk,hc⟩,fun a e=>?_⟩;cases e;exact⟨o,I.kIn _ o hk,hd⟩
  ·have z:∃o,s.heap.get? p=some o/\o.ExactDict:=by
    rcases hk with⟨kvs,hk⟩|⟨kvs,hk⟩
    ·obtain⟨_,_,_,_,o,_,_,e,ex,_⟩:=I.hok p _ hk;exact⟨o,e,ex⟩
    ·obtain⟨_,_,_,_,o,_,_,e,ex,_⟩:=I.hok p _ hk;exact⟨o,e,ex⟩
   obtain⟨o,e,ex⟩:=z;refine⟨⟨o,e,ex.1⟩,fun a e2=>?_⟩;cases e2;exact⟨o,e,ex.2.1⟩
  ·obtain⟨o,_,_,_,e,ex,_⟩:=I.hok p _ hk;refine⟨⟨o,e,ex.1⟩,fun a e2=>?_⟩;cases e2;exact⟨o,e,ex.2.1⟩
 |_=>exact False.elim ty
def uq(K:Frag)(T:String)(r:V->List V->Hp->VK->Prop)(to:TE):TE:=fun σ H Q=>to σ H fun x H1=>tyV K T x H1/\r x [] H1 Q
def tBM(K:Frag)(T:String)(r:V->List V->Hp->VK->Prop)(to:TE)(t:TA):TE:=fun σ H Q=>to σ H fun x H1=>tyV K T x H1/\t σ H1 fun xs H2=>r x xs H2 Q
variable{o e:Expr}{es:List Expr}{to:TE}{t:TA}{name:Str}{apos cpos:Pos}{T id:String}{r:V->List V->Hp->VK->Prop}
theorem ox(pa:PlainAttrs T)(slot:Slot T name id)(hty:typeOf (.builtin id)=pure (.type "method_descriptor"))(hm:MtR X id r)(ho:PE X o to)
  (hbase:attributeBase o name X.env (eval o X.env)=eval o X.env:=by rfl) (hline:(apos.endLine==cpos.line)=true:=by rfl):PE X (.Call (.Attribute o name apos) [] [] cpos) (uq X.K T r to):=by
 intro pins s σ H Q I h;refine wpAny_Call_method0_late hbase hline (thn (ho pins s σ H _ I h) fun v s1 hPz=>?_);obtain⟨x,H1,I1,r1,ty,q1⟩:=hPz;obtain⟨h1,h2⟩:=nS I1 r1 ty;exact⟨T,id,pa,slot,hty,h1,h2,Calls.callWith_builtin rfl (PySem.evalArgs_none (hm pins s1 σ H1 x [] v [] Q I1 r1 .nil q1))⟩
theorem e9(pa:PlainAttrs T)(slot:Slot T name id)(hty:typeOf (.builtin id)=pure (.type "method_descriptor"))(hm:MtR X id r)(ho:PE X o to)(ha:PA X (e::es) t)
  (hbase:attributeBase o name X.env (eval o X.env)=eval o X.env:=by rfl)
  (hfew:((backTo cpos (starEach (e::es) X.env)).all (fun x=> !x.1)&&(backToKw cpos (keywordEach [] X.env)).all (fun x=>x.1.isSome)
   &&decide ((e::es).length+([]:List Keyword).length+(if([]:List Keyword).isEmpty then 0 else 1)<30))=true:=by rfl)
  (hline:(apos.endLine==cpos.line)=true:=by rfl) (hs:starEach (e::es) X.env=(false,eval e X.env)::starEach es X.env:=by rfl) (hplain:(backTo cpos (starEach es X.env)).any (·.1)=false:=by rfl):
  PE X (.Call (.Attribute o name apos) (e::es) [] cpos) (tBM X.K T r to t):=by
 intro pins s σ H Q I h;refine wpAny_Call_method_late hbase hfew hline rfl (thn (ho pins s σ H _ I h) fun v s1 hPz=>?_);obtain⟨x,H1,I1,r1,ty,q1⟩:=hPz;obtain⟨h1,h2⟩:=nS I1 r1 ty;refine⟨T,id,pa,slot,hty,h1,h2,?_⟩;have hA:=ha cpos pins s1 σ H1 _ I1 q1;rw[hs]at hA ⊢;refine Calls.callWith_builtin (by show(false||(backTo cpos (starEach es X.env)).any (·.1))=false;rw[hplain]<;>rfl) (Calls.evalArgs_plain ?_);exact thn hA fun us s2 hPz=>L2.ep3 hPz fun vs H2 I2 r2 q2=>hm pins s2 σ H2 x vs v us Q I2 r1 r2 q2
end
def MtM(X:Cx)(id:String)(r:V->List V->Hp->VK->Prop):Prop:=
 ∀(pins:List (Addr×Obj))(s:Shared)(σ:St)(H:Hp)(x:V)(xs:List V)(v:Value)(us:List Value)(Q:VK),Inv X pins σ H s->RelV x v->Vals xs us->r x xs H Q->
  wpAny (model X.prog X.w) X.A (call (.builtin id) (v::us)) (EP X pins σ Q) X.xe s
theorem Vals.one:∀{x:V}{us:List Value},Vals [x] us->∃u,us=[u]/\RelV x u
 |_,_,.cons r .nil=>⟨_,rfl,r⟩
theorem Vals.zero:∀{us:List Value},Vals [] us->us=[]
 |_,.nil=>rfl
theorem Vals.dropLast{xs:List V}{us:List Value}(h:Vals xs us):Vals xs.dropLast us.dropLast:=by
 induction h with
 |nil=>exact .nil
 |cons r t ih=>
  cases t with
  |nil=>exact .nil
  |cons q t'=>exact .cons r ih
theorem lG{α:Type}(l:List α):l.eraseIdx (l.length-1)=l.dropLast:=by
 induction l with
 |nil=>rfl
 |cons a r ih=>
  cases r with
  |nil=>rfl
  |cons b r=>
   have e:(a::b::r).length-1=((b::r).length-1)+1:=by have h1:(a::b::r).length=r.length+2:=rfl;have h2:(b::r).length=r.length+1:=rfl;omega
   rw[e,List.eraseIdx_cons_succ,ih]
   all_goals rfl
section
variable{X:Cx}{pins:List (Addr×Obj)}{σ:St}{H:Hp}{s:Shared}{l b:Addr}{xs ys zs:List V}
theorem Inv.lset{its its':List Value}{n:Nat}{f:Array Value->Array Value}{t':Nat}(I:Inv X pins σ H s)(hH:H l=some (.lst xs))
  (e:s.heap.get? l=some {cls:=.type "list",data:=.seq its.toArray n}) (hf:f its.toArray=its'.toArray) (hv:Vals ys its') (hz:ys.length<=sizeLine):
  Inv X pins σ (upd H l (.lst ys)) {s with heap:=s.heap.update l (Obj.mapSeq f),toks:=t'}:=by
 have q:=PySem.IsL.update e f;rw[hf]at q;refine I.write (x:=l) (e:=l) (by rw[hH];exact trivial) (.inl rfl) (fun b' u hb hu=>(Heap.get?_update_other s.heap (Obj.mapSeq f) (Ne.symm hb)).trans hu) ⟨_,q⟩ ?_;exact⟨hz,its',_,hv,q⟩
theorem Inv.lnew{its:List Value}{t':Nat}(I:Inv X pins σ H s)(hv:Vals ys its)(hz:ys.length<=sizeLine):
  Inv X pins σ (upd H s.heap.objs.size (.lst ys)) {s with heap:=s.heap.push {cls:=.type "list",data:=.seq its.toArray},toks:=t'}:=
 I.laid (fun _ _ q=>uI _ q) (uW _) ⟨hz,its,0,hv,vj _ rfl⟩
theorem Inv.fresh(I:Inv X pins σ H s):H s.heap.objs.size=none:=I.hok.fresh (uW _)
theorem Inv.lstM(I:Inv X pins σ H s)(hH:H l=some (.lst xs)):xs.length<=sizeLine/\∃(its:List Value)(n:Nat),Vals xs its/\xs.length=its.length/\s.heap.get? l=some {cls:=.type "list",data:=.seq its.toArray n}:=by obtain⟨z,its,n,r,e⟩:=I.hok l _ hH;exact⟨z,its,n,r,r.length,e⟩
end
section
variable{X:Cx}
def qd:V->List V->Hp->VK->Prop:=fun x vs H Q=>∃l xs y,x=.ref l/\vs=[y]/\H l=some (.lst xs)/\xs.length<sizeLine/\Q .non (upd H l (.lst (xs++[y])))
theorem bg:MtM X "list.append" qd:=by intro pins s σ H x vs v us Q I rx rv h;obtain⟨l,xs,y,rfl,rfl,hH,hz,q⟩:=h;cases rx;obtain⟨u,rfl,ru⟩:=rv.one;obtain⟨z,its,n,r,hl,e⟩:=I.lstM hH;refine call_meets F.slot_list_append ⟨_,e,rfl⟩ F.entry_list_append (F.args_list_append_2 _ _) (PySem.list_append l its.toArray n u (by rw[uZ];omega)) ⟨e,?_⟩;refine⟨.non,_,I.lset (its':=its++[u]) hH e (by simp) (r.append (.cons ru .nil)) ?_,rfl,q⟩;rw[uO,List.length_singleton];omega
def uu:V->List V->Hp->VK->Prop:=fun x vs H Q=>∃l xs y,x=.ref l/\vs=[]/\H l=some (.lst xs)/\xs[xs.length-1]?=some y/\Q y (upd H l (.lst xs.dropLast))
theorem r8:MtM X "list.pop" uu:=by
 intro pins s σ H x vs v us Q I rx rv h;obtain⟨l,xs,y,rfl,rfl,hH,hy,q⟩:=h;cases rx;have hus:=rv.zero;subst hus;obtain⟨z,its,n,r,hl,e⟩:=I.lstM hH;obtain⟨u,hu,ru⟩:=r.get hy;have hy':its.toArray[its.toArray.size-1]?=some u:=by show its.toArray[its.length-1]?=some u;rw[<-uY,<-hl];exact hu
 refine call_meets F.slot_list_pop ⟨_,e,rfl⟩ F.entry_list_pop (F.args_list_pop_1 _) (MeetsSeq.list_pop_last l its.toArray n u hy' (by rw[uZ];omega)) ⟨e,?_⟩;refine⟨y,_,I.lset (its':=its.dropLast) hH e ?_ r.dropLast ?_,ru,q⟩
 ·show its.toArray.eraseIdxIfInBounds (its.toArray.size-1)=its.dropLast.toArray;rw[uZ,List.eraseIdxIfInBounds_toArray,lG]
 ·rw[List.length_dropLast];omega
noncomputable def uy:R2:=fun x y H Q=>∃l b xs zs,x=.ref l/\y=.ref b/\H l=some (.lst xs)/\H b=some (.lst zs)/\xs.length+zs.length<=sizeLine/\∀p,H p=none->Q (.ref p) (upd H p (.lst (xs++zs)))
theorem rX:OpR X (binaryOp .Add) uy:=by
 intro pins s σ H x y v u Q I rx ry h;obtain⟨l,b,xs,zs,rfl,rfl,hH,hB,hz,q⟩:=h;cases rx;cases ry;obtain⟨z,its,n,r,hl,e⟩:=I.lstM hH;obtain⟨z2,its2,n2,r2,hl2,e2⟩:=I.lstM hB;refine PySem.P.add_list e e2 ?_ (by rw[uZ,uZ];omega);have ea:its.toArray++its2.toArray=(its++its2).toArray:=by simp
 rw[ea];exact⟨.ref _,_,I.lnew (t':=s.toks) (r.append r2) (by rw[uO];omega),rfl,q _ I.fresh⟩
end
end L2
namespace Att
open PySem PySem.W PySem.Calls PyProof.Rows
theorem gw{P:Params}{h:Heap}:∀(ns:List Int)(vs:List Value),WellAll P h vs (ns.map WData.int)->IntsAre vs ns:=by
 intro ns
 induction ns with
 |nil=>intro vs w;rw[List.map_nil]at w;cases w;exact .nil
 |cons n ns ih=>
  intro vs w;rw[vp]at w;cases w with
  |cons a b=>cases a;exact .cons _ _ (ih _ b)
theorem m5{l:OpenLaw}{n:Nat}(hn:l.most=some n){P:Params}{h:Heap}{args:List WData}{vals:List Value}
  (hpre:l.row.toRowW.claim.pre args=true) (hwl:WellAll P h vals args):
  ∃a vs ns,vals=[Value.ref a]/\args=[WData.list (ns.map WData.int)]/\h.get? a=some {cls:=.type "list",data:=.seq vs.toArray}/\IntsAre vs ns/\ns.length<=n:=by
 have hsh:WShape.hasAll [] args [.list .int]=true:=(pre_splitW hpre).1;have hc:l.pre.holds [] {args:=args}=true:=(pre_splitW hpre).2;obtain⟨d,r,rfl,h1,h2⟩:=hasAllW_cons hsh;obtain rfl:=hasAllW_nil h2;obtain⟨xs,rfl,h3⟩:=hasW_list h1;obtain⟨ns,rfl⟩:=items_int h3;have hlen:ns.length<=n:=by
  unfold OpenLaw.pre at hc;have h4:(WTm.not (.lt (.lit (.int (n:Int))) (.len (.arg 0)))).holds [] {args:=[.list (ns.map .int)]}=true:=by have h4:=(holds_andW hc).1;rw[hn]at h4;exact h4
  have h5:=condW_of h4 (w_not (w_lt w_lit (w_len_list (w_arg rfl))));rw[uF]at h5;refine Nat.le_of_not_lt fun q=>?_;have q':(n:Int)<((ns.length:Nat):Int):=by omega
  first
   |(rw[ve q']at h5;exact absurd h5 (by decide))
   |(simp at h5;omega)
 cases hwl with
 |cons w1 w2=>
  cases w2;cases w1 with
  |list ho hall=>exact⟨_,_,ns,rfl,rfl,ho,gw ns _ hall,hlen⟩
theorem nj(l:OpenLaw)(args:List WData):l.row.toRowW.claim.post args (.bool true) args=true:=
 postW_of (r:=l.row.toRowW) (X:=(true==true))
  (show WShape.has [] (.bool true) .bool=true by first|rfl|decide|simp[WShape.has,WShape.arms,WShape.armsAll])
  (show(WTm.eq .res (.lit (.bool true))).value [] {args:=args,res:=some (.bool true),after:=args}=some (.bool (true==true))from w_eq_bool (w_res rfl) w_lit) rfl
theorem kI{l:OpenLaw}{n:Nat}{q:Program}{loose:List Str}{XP:(Str->Option Value)->Heap->Prop}{YP:World->Heap->Prop}{d:DefRec}
  (hn:l.most=some n) (hdf:d.params.defaults=[])
  (call:∀(w:World)(s₀ s₁:Shared)(mg mb:Str->Option Value)(fa:Addr)(o:Obj)(pm cd doc:Value)(a:Addr)(vs:List Value)(ns:List Int),
   Ground q loose [] XP w s₀ mg mb s₁.heap->YP w s₁.heap->
   s₁.heap.get? fa=some o->o.data=.func (docDef d.name d.params d.body d.scope pm cd doc)->s₁.heap.CodeRec cd d.name->mg d.name=some (.ref fa)->
   s₁.heap.get? a=some {cls:=.type "list",data:=.seq vs.toArray}->IntsAre vs ns->ns.length<=n->s₁.gens= #[]->
   codeAny (model l.prog w) callerA (.call (.ref fa) ⟨[.ref a],[]⟩) (fun r s'=>r=.ok (.ret (.bool true))/\OldK s₁.heap s'.heap/\s'.os=s₁.os/\AllBare s'.gens) s₁):
  WalkO q loose XP YP l.row.toRowW d [] (fun f vs=>PySem.call f vs):=by
 intro w s₀ s₁ mg mb G Y fa o pm cd doc dV kV ho hd hcd hD hmg hg args vals as hpre hlay hrd hwl hlo;obtain rfl:dV=.none:=Dflts.none hD hdf;obtain rfl:kV=.none:=Dflts.noKw hD;obtain⟨a,vs,ns,rfl,rfl,hobj,hints,hlen⟩:=m5 hn hpre hwl;refine enter_call (codeAny_mono (call w s₀ s₁ mg mb fa o pm cd doc a vs ns G Y ho (fd_plain hd) hcd hmg hobj hints hlen hg) fun r s' hq=>?_);obtain⟨rfl,h2,h3,h4⟩:=hq;exact⟨.inl ⟨.bool true,.bool true,[],rfl,fun _=>rfl,.bool true,nj l _,fun _=>⟨List.Pairwise.nil,fun _ hm=>(nomatch hm)⟩⟩,h2,h3,h4⟩
end Att
namespace L2
open PySem PySem.Spec PyProof.Rows
theorem mX{vs:List Value}{ns:List Int}(hI:IntsAre vs ns):Vals (ns.map V.int) vs:=by
 induction hI with
 |nil=>exact .nil
 |cons n t h ih=>exact .cons ⟨t,rfl⟩ (ih)
def rd(H:Hp):Prop:=∀b,H b=none\/∃o xs,H b=some (.frz o (.lst xs))
theorem oT{P:Program}{w:World}{K:Frag}{mg mb:Str->Option Value}{CX:CXT}{k:Nat}{fa a:Addr}{fd:FuncData}{x:Str}{sp:Sp}{s₁:Shared}{vs:List Value}{ns:List Int}
  (KX:K.In s₁.heap) (hns:s₁.heap.Ns mainGlobals mg) (hb:s₁.heap.Ns builtinsNs mb) (hbb:∀x:Str,x≠"__name__"->mb x=bootBuiltins x) (hlim:s₁.heap.NoLimit) (hg:s₁.gens= #[])
  (ha:s₁.heap.get? a=some {cls:=.type "list",data:=.seq vs.toArray}) (hi:IntsAre vs ns) (hl:ns.length<=sizeLine) (hr:dH k callerA)
  (F:∀base:Heap,K.In base->base.Ns mainGlobals mg->jN P w K mg base CX k fa fd [x] sp) (hbind:∀(s:Shared)(u:Value),BindsTo s fd ⟨[u],[]⟩ [(x,u)])
  (hsp:∀H:Hp,rd H->SqL K H a (ns.map V.int)->sp [.ref a] H (fun v _=>v=.bl true) fun _ _ _=>False)
  (hCX:∀H e s',CX [] H s₁ (fun _ _ _=>False) e s'->False):
  codeAny (model P w) callerA (.call (.ref fa) ⟨[.ref a],[]⟩) (fun r s'=>r=.ok (.ret (.bool true))/\OldK s₁.heap s'.heap/\s'.os=s₁.os/\AllBare s'.gens) s₁:=by
 have rv:=mX hi;have lenV:=hi.length;have core:∀H:Hp,rd H->SqL K H a (ns.map V.int)->HOk P w H s₁.heap->(∀b,H b≠none->b=a)->(H a≠none->K.lookup a=none)->
   codeAny (model P w) callerA (.call (.ref fa) ⟨[.ref a],[]⟩) (fun r s'=>r=.ok (.ret (.bool true))/\OldK s₁.heap s'.heap/\s'.os=s₁.os/\AllBare s'.gens) s₁:=by
  intro H hO hS hok hA hK;have base_of:∀{b:Addr}{o:Obj},s₁.heap.get? b=some o->H b=none->(jB s₁.heap H).get? b=some o:=fun e n=>pj e n;have noA:∀{b:Addr}{o:Obj}{es:Array DictEntry}{ep:Nat},s₁.heap.get? b=some o->o.data=.dict es ep->H b=none:=fun {b o es ep} e d=>by
   cases q:H b with
   |none=>rfl
   |some u=>have e':b=a:=hA b (by rw[q];simp);subst e';rw[ha]at e;cases e;have d':Data.seq vs.toArray _=Data.dict es ep:=d;cases d'
  have nsK:∀{b:Addr}{m:Str->Option Value},s₁.heap.Ns b m->(jB s₁.heap H).Ns b m:=fun {b m} ⟨o,es,ep,e,d,r⟩=>⟨o,es,ep,base_of e (noA e d),d,r⟩
  have hKb:K.In (jB s₁.heap H):=fun b o e=>base_of (KX b o e) (by
   cases q:H b with
   |none=>rfl
   |some u=>
    have e':b=a:=hA b (by rw[q];simp);subst e'
    rw[hK (by rw[q];simp)]at e;cases e)
  have hM:Mod K mg (jB s₁.heap H):=⟨hKb,nsK hns,⟨mb,nsK hb,hbb⟩,let ⟨mc,h1,h2⟩:=hlim;⟨mc,nsK h1,h2⟩⟩;have e0:rj P w K mg (jB s₁.heap H) callerA [] s₁ H:=⟨rfl,hM,fun b o e=>qo e,Nat.le_of_eq (nK _ _),trivial,fun b hb=>absurd (show b∈([]:List Addr)from hb) (by simp),hok,.of_eq hg⟩;refine codeAny_mono ((F _ hKb (nsK hns)).run callerA [] s₁ H ⟨[.ref a],[]⟩ [.ref a] [.ref a] _ _ hr e0 (hbind s₁ (.ref a)) (.cons rfl .nil) (hsp H hO hS)) fun r s' h=>?_;cases r with
  |error e=>exact(hCX H e s' h).elim
  |ok fl=>
   cases fl with
   |next=>exact False.elim h
   |brk=>exact False.elim h
   |cont=>exact False.elim h
   |ret u=>
    obtain⟨v,H',os,bare,un,hok',r',q⟩:=h;have q':v=.bl true:=q;subst q';obtain rfl:u=Value.bool true:=r';refine⟨rfl,OldK.of_keep fun b o e=>?_,os,bare⟩;cases q:H b with
    |none=>exact un.keep b o e q (by intro z;exact absurd (show b∈([]:List Addr)from z) (by simp)) (by simp)
    |some u=>
     rcases hO b with z|⟨ob,xs,z⟩
     ·rw[q]at z;cases z
     ·have z2:=un.frzs b ob _ z;obtain⟨e1,_⟩:=hok b _ z;obtain⟨e2,_⟩:=hok' b _ z2;rw[e]at e1;cases e1;exact e2
 cases hk:K.lookup a with
 |some o=>have e:=KX a o hk;rw[ha]at e;cases e;refine core (fun _=>none) (fun _=>.inl rfl) (.inr ⟨_,vs.toArray,_,hk,rfl,rfl,rfl,by rw[uZ,lenV];exact hl,by simpa using rv⟩) (fun b u z=>by have z':(none:Option HO)=some u:=z;cases z') (fun b z=>absurd rfl z) fun z=>absurd rfl z
 |none=>
  refine core (fun b=>if b=a then some (.frz {cls:=.type "list",data:=.seq vs.toArray} (.lst (ns.map V.int)))else none) (fun b=>?_) (.inl (.inr ⟨{cls:=.type "list",data:=.seq vs.toArray},uM rfl⟩)) (fun b u z=>?_) (fun b z=>?_) fun _=>hk
  ·by_cases hb:b=a
   ·exact .inr ⟨_,_,uM hb⟩
   ·exact .inl (uK hb)
  ·by_cases hb:b=a
   ·have z':=(uM hb).symm.trans z;cases z';subst hb;exact⟨ha,by rw[uF];exact hl,vs,_,rv,ha⟩
   ·have z':=(uK hb).symm.trans z;cases z'
  ·by_cases hb:b=a
   ·exact hb
   ·exact absurd (uK hb) z
noncomputable abbrev KOf{K:Frag}{h:Heap}(_:K.In h):Frag:=K
theorem p6{l:PySem.W.OpenLaw}{n k:Nat}{q:Program}{loose:List Str}{XP:(Str->Option Value)->Heap->Prop}{YP:World->Heap->Prop}{d:DefRec}{K:Params->Frag}{CX:World->CXT}{sp:World->Sp}{x:Str}
  (hn:l.most=some n) (hn2:n<=sizeLine) (hdf:d.params.defaults=[]) (hr:dH k callerA)
  (hY:∀(w:World)(h:Heap),YP w h->(K w.params).In h)
  (F:∀(w:World)(mg:Str->Option Value)(fa:Addr)(h:Heap),(K w.params).In h->h.Ns mainGlobals mg->mg d.name=some (.ref fa)->
   ∃fd:FuncData,(∀(s:Shared)(u:Value),BindsTo s fd ⟨[u],[]⟩ [(x,u)])/\
    ∀base:Heap,(K w.params).In base->base.Ns mainGlobals mg->jN l.prog w (K w.params) mg base (CX w) k fa fd [x] (sp w))
  (hsp:∀(w:World)(H:Hp)(a:Addr)(ns:List Int),ns.length<=n->rd H->SqL (K w.params) H a (ns.map V.int)->sp w [.ref a] H (fun v _=>v=.bl true) fun _ _ _=>False)
  (hCX:∀(w:World)(H:Hp)(s:Shared)(e:Value)(s':Shared),CX w [] H s (fun _ _ _=>False) e s'->False):
  PySem.W.WalkO q loose XP YP l.row.toRowW d [] (fun f vs=>PySem.call f vs):=by
 refine Att.kI hn hdf fun w s₀ s₁ mg mb fa o pm cd doc a vs ns G Y ho hd hcd hmg hobj hints hlen hg=>?_;have KX:=hY w _ Y;obtain⟨fd,hb,hF⟩:=F w mg fa _ KX G.T.g hmg;exact oT KX G.T.g G.T.b G.T.builtins G.T.nolimit hg hobj hints (wF hlen hn2) hr hF hb (fun H hO hS=>hsp w H a ns hlen hO hS) fun H e s'=>hCX w H s₁ e s'
theorem nR{l:PySem.W.OpenLaw}{n k:Nat}{q:Program}{loose:List Str}{XP:(Str->Option Value)->Heap->Prop}{YP:World->Heap->Prop}{d:DefRec}{K:Params->Frag}{CX:CXT}{sp:Frag->Sp}{x:Str}
  (hn:l.most=some n) (hn2:n<=sizeLine) (hdf:d.params.defaults=[]) (hr:dH k callerA)
  (hY:∀(w:World)(h:Heap),YP w h->(K w.params).In h)
  (F:∀(w:World)(mg:Str->Option Value)(fa:Addr)(h:Heap),(K w.params).In h->h.Ns mainGlobals mg->mg d.name=some (.ref fa)->
   ∃fd:FuncData,(∀(s:Shared)(u:Value),BindsTo s fd ⟨[u],[]⟩ [(x,u)])/\
    ∀base:Heap,(K w.params).In base->base.Ns mainGlobals mg->jN l.prog w (K w.params) mg base CX k fa fd [x] (sp (K w.params)))
  (hsp:∀(K:Frag)(H:Hp)(a:Addr)(ns:List Int),ns.length<=n->rd H->SqL K H a (ns.map V.int)->sp K [.ref a] H (fun v _=>v=.bl true) fun _ _ _=>False)
  (hCX:∀(H:Hp)(s:Shared)(e:Value)(s':Shared),CX [] H s (fun _ _ _=>False) e s'->False):
  PySem.W.WalkO q loose XP YP l.row.toRowW d [] (fun f vs=>PySem.call f vs):=
 p6 (K:=K) (CX:=fun _=>CX) (sp:=fun w=>sp (K w.params)) hn hn2 hdf hr hY F (fun w H a ns h1 h2 h3=>hsp (K w.params) H a ns h1 h2 h3) fun _ H s e s'=>hCX H s e s'
noncomputable def dW(s:Stmt):Arguments:=match s with
 | .FunctionDef _ a _ _ _ _ _ _ _ _=>a
 |_=>{posonlyargs:=[],args:=[],vararg:=none,kwonlyargs:=[],kw_defaults:=[],kwarg:=none,defaults:=[]}
noncomputable def cJ(s:Stmt):List Stmt:=match s with
 | .FunctionDef _ _ b _ _ _ _ _ _ _=>b
 |_=>[]
noncomputable def au(s:Stmt):Scope:=match s with
 | .FunctionDef _ _ _ _ _ _ sc _ _ _=>sc
 |_=>{kind:=.function,names:=[],isGenerator:=false,isCoroutine:=false}
noncomputable abbrev CX0:CXT:=fun _ _ _ _ _ _=>False
noncomputable abbrev E0:XK:=fun _ _ _=>False
theorem tH{X:Cx}:Passes CX0 X E0:=fun _ _ _ _ _ _ _ h=>h.elim
structure Fun(K:Frag)(x qual:Str)(st:Stmt)(f:Addr)(fd:FuncData):Prop where
 ex:∃(oc:Value)(od:Option Addr)(kV doc pm:Value)(an:Option Addr)(cdv ct:Value)(osl:Array (Option Value)),
  fd=fnOf x qual (dW st) (cJ st) (au st) .none kV doc pm an cdv ct/\K.lookup f=some ⟨oc,od,.func fd,osl⟩/\codeIn K cdv qual=true
 kp:keepIn K (.ref f)=true
section
variable{P:Program}{w:World}{K:Frag}{mg:Str->Option Value}{base:Heap}
theorem Fun.ok{x qual:Str}{st:Stmt}{f:Addr}{fd:FuncData}{N ps:List Str}{k:Nat}{sp:Sp}(F:Fun K x qual st f fd)(S:aB N ps (au st))(len:∀vs H Q E,sp vs H Q E->vs.length=ps.length)
  (hbody:∀(cdv:Value)(A:Around)(outer:List Env)(s:Shared)(H:Hp)(vs:List V)(Q:VK)(E:XK),dH k (A.deeper (envOfC qual (au st) s.heap.objs.size f cdv))->sp vs H Q E->
   ∃t,PSs (lJ CX0 P w K mg base N qual (au st) f cdv A outer s H E).nox (cJ st) t/\t {nx:=fun _ H'=>Q .non H',rt:=Q} (start N vs) H):jN P w K mg base CX0 (k+1) f fd ps sp:=by
 obtain⟨oc,od,kV,doc,pm,an,cdv,ct,osl,rfl,lk,hcd⟩:=F.ex;refine tX lk hcd S len fun A outer s H vs Q E hr hsp=>?_;obtain⟨t,h,q⟩:=hbody cdv A outer s H vs Q E hr hsp;exact⟨t,h.nox,q⟩
theorem Fun.binds{x qual:Str}{st:Stmt}{f:Addr}{fd:FuncData}{ps:List Str}(F:Fun K x qual st f fd)
  (h:∀(kV doc pm:Value)(an:Option Addr)(cdv ct:Value)(us:List Value),us.length=ps.length->bindArgs (fnOf x qual (dW st) (cJ st) (au st) .none kV doc pm an cdv ct) ⟨us,[]⟩=pure (ps.zip us)):Binds K fd ps []:=by
 obtain⟨oc,od,kV,doc,pm,an,cdv,ct,osl,rfl,lk,hcd⟩:=F.ex;exact .all (h kV doc pm an cdv ct)
theorem pC{x qual:Str}{st:Stmt}{f:Addr}{oc:Value}{od an:Option Addr}{osl:Array (Option Value)}{kV doc pm cdv ct:Value}(l:K.lookup f=some ⟨oc,od,.func (fnOf x qual (dW st) (cJ st) (au st) .none kV doc pm an cdv ct),osl⟩)
 (c:codeIn K cdv qual=true) (k:keepIn K (.ref f)=true):Fun K x qual st f (fnOf x qual (dW st) (cJ st) (au st) .none kV doc pm an cdv ct):=⟨⟨oc,od,kV,doc,pm,an,cdv,ct,osl,rfl,l,c⟩,k⟩
end
theorem aD{n:Nat}(h:n<=1000):n<sizeLine:=Nat.lt_of_le_of_lt h (by decide)
section
variable{X:Cx}
theorem pv(i:Nat){x:Str}{pos:Pos}(hN:X.N[i]?=some x:=by rfl)(hv:Vis X.env.scope x:=by first|exact Or.inl rfl|exact Or.inr (Or.inl rfl)|exact Or.inr (Or.inr rfl))(hd:(x==("__debug__":Str))=false:=by decide)
 (hcd:(x==("__classdict__":Str))=false:=by decide):PE X (.Name x pos) (sT i):=rP hN hv hd hcd
end
theorem g9{A B:Prop}(h:B):if false=true then A else B:=by rw[uK uT];exact h
theorem pe{A B:Prop}(h:A):if true=true then A else B:=by rw[uM rfl];exact h
theorem bP{c A B:Prop}[Decidable c](h1:c->A)(h2:¬c->B):if c then A else B:=by
 by_cases h:c
 ·rw[uM h];exact h1 h
 ·rw[uK h];exact h2 h
def aq(H H':Hp):Prop:=∀b o,H b=some o->H' b=some o
theorem aq.refl(H:Hp):aq H H:=fun _ _ h=>h
theorem aq.trans{H H1 H2:Hp}(a:aq H H1)(b:aq H1 H2):aq H H2:=fun c o h=>b c o (a c o h)
section
variable{X:Cx}
noncomputable abbrev bC(X:Cx)(N':List Str)(scope:Scope)(cl:List (Str×Addr))(C:Addr)(ex:List Addr)(s:Shared)(H:Hp):Cx where
 prog:=X.prog
 w:=X.w
 K:=X.K
 mg:=X.mg
 base:=X.base
 A:=X.A
 N:=N'
 s₀:=s
 H₀:=H
 env:=compEnvC scope cl C X.env
 outer:=X.stack
 stack:=X.stack
 ex:=ex
 fn:=fun x=>(cl.lookup x).isNone
 calm:=X.calm
 pn:=[]
 xe:=fun _ _=>False
def pO(X:Cx)(ifs:List Expr)(t:TT):Prop:=
 ∀(pins:List (Addr×Obj))(s:Shared)(σ:St)(H:Hp)(Q:Bool->Hp->Prop),Inv X pins σ H s->t σ H Q->
  wpAny (model X.prog X.w) X.A (forIn ifs true fun c r=>if r=true then do let ok <-isTrue c X.env (eval c X.env);pure (ForInStep.yield ok)else pure (ForInStep.yield r)) (TP X pins σ Q) X.xe s
def ub:TT:=fun _ H Q=>Q true H
theorem fE:pO X [] ub:=fun _ _ _ H _ I h=>wpAny_tests_nil ⟨H,I,h⟩
theorem eD{c:Expr}{t:TT}(h:PT X c t):pO X [c] t:=fun pins s σ H Q I q=>wpAny_tests_one (h pins s σ H Q I q)
def Wk(σ σ2:St):Prop:=σ.length=σ2.length/\∀(i:Nat) v,σ[i]?=some (some v)->σ2[i]?=some (some v)
noncomputable def cH(n:Nat)(js:List Nat)(σ:St):St:=List.replicate n none++js.map fun j=>(σ[j]?).join
def rk(wi:TI)(g:TG)(tt:TT)(te:TE)(n:Nat)(js:List Nat):TE:=fun σ H Q=>wi σ H fun J H1=>∀D,H1 D=none->∃W:Nat->Nat->List V->Hp->Prop,(∃m,W 0 m [] (upd H1 D (.lst [])))/\∀i m acc H2,W i m acc H2->
 (J.stop i H2/\Q (.ref D) H2)\/(J.go i H2/\∃N:List V->Hp->Prop,(∀acc' H',N acc' H'->∃m',m'<m/\W (i+1) m' acc' H')/\∀x H3,J.yld i H2 x H3->g x (cH n js σ) H3 fun σ2 H4=>tt σ2 H4 fun b H5=>
  if b=true then te σ2 H5 fun y H6=>H6 D=some (.lst acc)/\acc.length<sizeLine/\N (acc++[y]) (upd H6 D (.lst (acc++[y])))else N acc H5)
theorem ph{pins:List (Addr×Obj)}{σ:St}{H:Hp}{s:Shared}{fp:List Addr}{scope:Scope}{cl:List (Str×Addr)}{own:List Str}{fr:List (Str×Nat)}{h1:Heap}{m0:Str->Option Value}{tk:Nat}
  (I:Inv X pins σ H s) (hf:∀b∈fp,f9 X pins H b) (hlt:∀b∈fp,b<s.heap.objs.size) (hkind:scope.kind=.function)
  (hcl:∀x c,cl.lookup x=some c->X.env.cells.lookup x=some c)
  (hkin:∀x,((relabel scope X.env).names.lookup x=some .cell\/(relabel scope X.env).names.lookup x=some .free)->∃c,cl.lookup x=some c)
  (hfr:∀p∈fr,X.N[p.2]?=some p.1/\X.env.kindOf p.1=some .cell)
  (hvis:∀p∈fr,(relabel scope X.env).names.lookup p.1=some .cell)
  (hn:h1.Ns s.heap.objs.size m0) (kk:∀b u,s.heap.get? b=some u->h1.get? b=some u):
  Inv (bC X (own++fr.map (·.1)) scope cl s.heap.objs.size fp s H) [] (cH own.length (fr.map (·.2)) σ) H {s with heap:=h1,toks:=tk}:=by
 refine⟨⟨I.ok.mod,hkind,I.ok.glob,I.ok.blt,uW _,fun x y c e1 e2=>I.ok.inj x y c (hcl x c e1) (hcl y c e2),hkin,fun x c h e=>?_,I.ok.hd,I.ok.frames,.inl rfl,fun b hb=>?_,I.bs,wF I.ok.bsz I.sz,fun b o e hb=>?_,fun b hb z=>?_,I.stack,I.stkFree⟩,
  rfl,I.bare,Un.kept kk,⟨m0,hn,fun i x v e1 e2 e3=>?_⟩,fun x c e=>?_,I.hok.fresh (uW _),fun x c e=>I.freeC x c (hcl x c e),fun p hp=>absurd (show p∈([]:List (Addr×Obj))from hp) (by simp),I.hok.kept kk,?_⟩
 ·have h':(cl.lookup x).isNone=true:=h;have e':cl.lookup x=some c:=e;rw[e']at h';cases h'
 ·exact⟨vv (hlt b hb),fun x c e=>(hf b hb).2.2.2.2.1 x c (hcl x c e)⟩
 ·rcases (hf b hb).2.2.2.1 with z|z
  ·exact I.ok.noex b o e z
  ·exact absurd (uQ (uU (I.ok.bs b o e).1) z) (Nat.lt_irrefl _)
 ·rcases vn.mp (I.stkSub b z)with e|e
  ·exact(hf b hb).2.1 e
  ·exact(hf b hb).2.2.1 e
 ·have e1':(own++fr.map (·.1))[i]?=some x:=e1;have e2':(List.replicate own.length none++(fr.map (·.2)).map fun j=>(σ[j]?).join)[i]?=some (some v):=e2;by_cases hi:i<own.length
  ·rw[List.getElem?_append_left (by simpa using hi),List.getElem?_replicate]at e2';split at e2'<;>cases e2'
  ·rw[wM (by omega)]at e1';rw[wM (by simpa using hi)]at e2';simp only[List.length_replicate,vz,Option.map_map]at e1' e2';cases q:fr[i-own.length]? with
   |none=>rw[q]at e1';cases e1'
   |some p=>
    rw[q]at e1' e2';simp only[Option.map_some,Option.some.injEq]at e1' e2';subst e1';have hp:p∈fr:=vi q;obtain⟨m,_,hl⟩:=I.loc;have e3':σ[p.2]?=some (some v):=by
     cases z:σ[p.2]? with
     |none=>rw[Function.comp_apply,z]at e2';cases e2'
     |some y=>rw[Function.comp_apply,z]at e2';simp only[Option.join]at e2';rw[<-e2'];rfl
    obtain⟨u,r,l⟩:=hl p.2 p.1 v (hfr p hp).1 e3' (.inr (.inl (hfr p hp).2));refine⟨u,r,?_⟩;rcases l with⟨k,_⟩|⟨_,c,hc,z⟩
    ·rw[(hfr p hp).2]at k;cases k
    ·obtain⟨c',hc'⟩:=hkin p.1 (.inl (hvis p hp));have e4:=hcl _ _ hc';rw[hc]at e4;cases e4;obtain⟨o,ho,hd⟩:=z;exact .inr ⟨.inl (hvis p hp),c,hc',⟨o,kk _ _ ho,hd⟩⟩
 ·obtain⟨v,o,ho,hd⟩:=I.cell x c (hcl x c e);exact⟨v,o,kk _ _ ho,hd⟩
 ·show(cH own.length (fr.map (·.2)) σ).length=(own++fr.map (·.1)).length;simp[cH]
theorem jE{prog:Program}{w:World}{A:Around}{R:Result->Shared->Prop}{s:Shared}{elt target iter:Expr}{ifs:List Expr}{scope:Scope}{pos:Pos}{it acc:Value}{env:Env}(I:Nat->Shared->Prop)
  (turn:∀n s,I n s->wpAny (model prog w) A (pyNext it) (fun r s₁=>match r with
   |none=>R (.ok .next) s₁
   |some v=>wpAny (model prog w) A (letOwnedTupleGo target it v) (fun _ s₁'=>wpAny (model prog w) A (assign target env v) (fun _ s₂=>
    wpAny (model prog w) A (forIn ifs true fun c r=>if r=true then do let ok <-isTrue c env (eval c env);pure (ForInStep.yield ok)else pure (ForInStep.yield r)) (fun ok s₃=>
     if ok=true then wpAny (model prog w) A (eval elt env) (fun x s₄=>wpAny (model prog w) A (call (.builtin "list.append") [acc,x]) (fun _ s₅=>∃m,m<n/\I m s₅) (notedBy (model prog w) A env fun e s'=>R (.error e) s') s₄) (notedBy (model prog w) A env fun e s'=>R (.error e) s') s₃
     else ∃m,m<n/\I m s₃) (notedBy (model prog w) A env fun e s'=>R (.error e) s') s₂) (notedBy (model prog w) A env fun e s'=>R (.error e) s') s₁') (notedBy (model prog w) A env fun e s'=>R (.error e) s') s₁) (notedBy (model prog w) A env fun e s'=>R (.error e) s') s)
  (n:Nat) (h:I n s):
  codeAny (model prog w) A (.compLoop (.ListComp elt [⟨target,iter,ifs,0⟩] scope pos) 0 it acc env) R s:=by
 refine codeAny_loop rfl I (fun n s hI=>?_) n h;show wpAny _ A ((compTurn (.ListComp elt [⟨target,iter,ifs,0⟩] scope pos) 0 it acc env).onRaise (fun x=>do noteFrame x env;theTreesLotGoes x)) _ _ s;refine wpAny_noted ?_;rw[compTurn_list];refine uE (wpAny_standAt (uE (v8 (turn n s hI) (fun r s₁ h₁=>?_) fun _ _ h'=>h')));cases r with
 |none=>exact uG h₁
 |some v=>
  refine uE (v8 h₁ (fun _ s₁' h₁'=>?_) fun _ _ h'=>h');refine uE (v8 h₁' (fun _ s₂ h₂=>uE (v8 h₂ (fun ok s₃ h₃=>?_) fun _ _ h'=>h')) fun _ _ h'=>h');cases ok with
  |false=>exact uG ⟨rfl,h₃⟩
  |true=>exact uE (uE (v8 h₃ (fun x s₄ h₄=>uE (v8 h₄ (fun _ s₅ h₅=>uG (uG ⟨rfl,h₅⟩)) fun _ _ h'=>h')) fun _ _ h'=>h'))
theorem ia{elt tg iter:Expr}{ifs:List Expr}{scope:Scope}{pos:Pos}{g:TG}{tt:TT}{te:TE}{own:List Str}{fr:List (Str×Nat)}{cl:List (Str×Addr)}
  {pins:List (Addr×Obj)} {σ:St} {H:Hp} {s:Shared} {Q:VK} {it D:Addr} {fp:List Addr} {tn:Nat->Heap->Prop} {J:It} {W:Nat->Nat->List V->Hp->Prop} {m0:Nat} {RR:Value->Addr->Result->Shared->Prop}
  (hRR:∀(s6:Shared)(H5:Hp)(m:Str->Option Value),Inv X pins σ H5 s6->s6.heap.Ns s.heap.objs.size m->f9 X pins H5 s.heap.objs.size->Q (.ref D) H5->RR (.ref D) s.heap.objs.size (.ok .next) s6)
  (hc:X.calm=true) (hkind:scope.kind=.function) (hnc:∀y∈scope.names,y.2≠ .cell)
  (hcl:∀x c,cl.lookup x=some c->X.env.cells.lookup x=some c)
  (hkin:∀x,((relabel scope X.env).names.lookup x=some .cell\/(relabel scope X.env).names.lookup x=some .free)->∃c,cl.lookup x=some c)
  (hfr:∀p∈fr,X.N[p.2]?=some p.1/\X.env.kindOf p.1=some .cell) (hvis:∀p∈fr,(relabel scope X.env).names.lookup p.1=some .cell)
  (hw:∀x σ H R,σ.length=own.length+fr.length->(∀(i:Nat),i<own.length->σ[i]?=some none)->g x σ H R->g x σ H fun σ2 H2=>Wk σ σ2/\R σ2 H2)
  (hg:∀C ex s H,PG (bC X (own++fr.map (·.1)) scope cl C ex s H) tg g)
  (ht:∀C ex s H,pO (bC X (own++fr.map (·.1)) scope cl C ex s H) ifs tt)
  (he:∀C ex s H,PE (bC X (own++fr.map (·.1)) scope cl C ex s H) elt te)
  (I:Inv X pins σ H s) (T:Turn X.prog X.w X.K tg J fp it tn) (st:tn 0 s.heap) (hf:∀b∈fp,f9 X pins H b) (w0:W 0 m0 [] H)
  (turn:∀i m acc H2,W i m acc H2->(J.stop i H2/\Q (.ref D) H2)\/(J.go i H2/\∃N:List V->Hp->Prop,(∀acc' H',N acc' H'->∃m',m'<m/\W (i+1) m' acc' H')/\∀x H3,J.yld i H2 x H3->g x (cH own.length (fr.map (·.2)) σ) H3 fun σ2 H4=>tt σ2 H4 fun b H5=>if b=true then te σ2 H5 fun y H6=>H6 D=some (.lst acc)/\acc.length<sizeLine/\N (acc++[y]) (upd H6 D (.lst (acc++[y])))else N acc H5)):
  wpAny (model X.prog X.w) X.A (newFunctionEnv scope X.env.globals cl [] X.env.qual none .none (some X.env)) (fun cenv s₄=>
   codeAny (model X.prog X.w) X.A (.compStart (.ListComp elt [⟨tg,iter,ifs,0⟩] scope pos) 0 (.ref it) (.ref D) {cenv with scope:=relabel scope X.env})
    (RR (.ref D) cenv.locals) s₄) X.xe s:=by
 have hlt:∀b∈fp,b<s.heap.objs.size:=fun b hb=>by obtain⟨o,e,_⟩:=T.obj 0 _ st b hb;exact uU e
 refine wpAny_newFunctionEnv hnc (by intro y hy;simp at hy) (fun h₁ hns hsb=>?_) hkind;have kk:∀b u,s.heap.get? b=some u->h₁.get? b=some u:=fun b u e=>(hsb.2 b (vv (uU e))).trans (uI _ e);have I4:Inv (bC X (own++fr.map (·.1)) scope cl s.heap.objs.size fp s H) [] (cH own.length (fr.map (·.2)) σ) H {s with heap:=h₁,toks:=s.toks+([]:List (Str×Value)).length}:=
  ph I hf hlt hkind hcl hkin hfr hvis hns kk
 have st4:tn 0 h₁:=T.keep _ _ _ st fun b _ o e=>kk b o e;have hσ:(cH own.length (fr.map (·.2)) σ).length=own.length+fr.length:=by simp[cH]
 have hσ0:∀(i:Nat),i<own.length->(cH own.length (fr.map (·.2)) σ)[i]?=some none:=fun i hi=>by unfold cH;rw[List.getElem?_append_left (by simpa using hi),List.getElem?_replicate,uM hi]
 have stat:∀{H':Hp},(∀b∈fp,H' b=none)->∀b∈fp,f9 (bC X (own++fr.map (·.1)) scope cl s.heap.objs.size fp s H) [] H' b:=fun hn b hb=>⟨hn b hb,vv (hlt b hb),fun z=>(vn.mp (I.stkSub b z)).elim (hf b hb).2.1 (hf b hb).2.2.1,.inl hb,fun x c e=>(hf b hb).2.2.2.2.1 x c (hcl x c e),fun p hp=>absurd (show p∈([]:List (Addr×Obj))from hp) (by simp)⟩
 have loop:∀s4:Shared,s4={s with heap:=h₁,toks:=s.toks+([]:List (Str×Value)).length}->
   codeAny (model X.prog X.w) X.A (.compLoop (.ListComp elt [⟨tg,iter,ifs,0⟩] scope pos) 0 (.ref it) (.ref D) (compEnvC scope cl s.heap.objs.size X.env))
    (RR (.ref D) s.heap.objs.size) s4:=by
  rintro s4 rfl;refine jE (fun n s'=>∃i acc H',Inv (bC X (own++fr.map (·.1)) scope cl s.heap.objs.size fp s H) [] (cH own.length (fr.map (·.2)) σ) H' s'/\tn i s'.heap/\(∀b∈fp,H' b=none)/\W i n acc H') ?_ m0
   ⟨0,[],H,I4,st4,fun b hb=>(hf b hb).1,w0⟩
  rintro n s5 ⟨i,acc,H5,I5,st5,fr5,w5⟩;rcases turn i n acc H5 w5 with⟨stop,q⟩|⟨go,N,hN,step⟩
  ·refine v8 (T.done (bC X (own++fr.map (·.1)) scope cl s.heap.objs.size fp s H) rfl rfl rfl hc i [] s5 _ H5 _ I5 (stat fr5) st5 stop) (fun r s6 ⟨hr,I6⟩=>?_) (fun _ _ z=>z);subst hr;obtain⟨m6,hn6,_⟩:=id I6.loc;have I7:Inv X pins σ H5 s6:=I.call' (ch:=fp) I6.os I6.base I6.hok I6.bare (fun b hb=>⟨(hf b hb).2.2.2.1,(hf b hb).2.1,(hf b hb).2.2.2.2.1,(hf b hb).2.2.2.2.2⟩);exact hRR s6 H5 m6 I7 hn6 (I.fpOk (H':=H5) (uW _) I6.free) q
  ·refine v8 (T.item (bC X (own++fr.map (·.1)) scope cl s.heap.objs.size fp s H) rfl rfl rfl hc i [] s5 _ H5 _ I5 (stat fr5) st5 go) (fun r s6 hPz=>?_) (fun _ _ z=>z);obtain⟨u,hr,h6⟩:=hPz;subst hr;refine v8 h6 (fun _ s7 hPz=>?_) (fun _ _ z=>z);obtain⟨x,H7,I7,r7,y7,st7,fr7⟩:=hPz;have I7':=I7.pinned (stat fr7) (T.obj _ _ st7);refine v8 (hg s.heap.objs.size fp s H _ s7 _ H7 x u _ I7' r7 (hw x _ H7 _ hσ hσ0 (step x H7 y7))) (fun _ s8 hPz=>?_) (fun _ _ z=>False.elim z);obtain⟨σ8,H8,I8,wk,q8⟩:=hPz;have again:∀{s10:Shared}{H10:Hp}{acc':List V},Inv (bC X (own++fr.map (·.1)) scope cl s.heap.objs.size fp s H) ([]++gQ fp s7.heap) σ8 H10 s10->N acc' H10->
     ∃m,m<n/\∃i acc H',Inv (bC X (own++fr.map (·.1)) scope cl s.heap.objs.size fp s H) [] (cH own.length (fr.map (·.2)) σ) H' s10/\tn i s10.heap/\(∀b∈fp,H' b=none)/\W i m acc H':=fun {s10 H10 acc'} I10 n10=>by
    obtain⟨m',hm,w10⟩:=hN acc' H10 n10;refine⟨m',hm,i+1,acc',H10,I10.unpinned.weak wk.1 wk.2,T.keep _ _ _ st7 fun b hb o e=>(I10.pin (b,o) (vc _ (vc _ (dP hb e)))).1,fun b hb=>?_,w10⟩;obtain⟨o,e,d⟩:=T.obj _ _ st7 b hb;exact(I10.pin (b,o) (vc _ (vc _ (dP hb e)))).2.1
   refine v8 (ht s.heap.objs.size fp s H _ s8 σ8 H8 _ I8 q8) (fun b s9 hPz=>?_) (fun _ _ z=>False.elim z);obtain⟨H9,I9,q9⟩:=hPz;cases b with
   |false=>exact again I9 q9
   |true=>refine v8 (he s.heap.objs.size fp s H _ s9 σ8 H9 _ I9 q9) (fun y s10 hPz=>?_) (fun _ _ z=>False.elim z);obtain⟨yv,H10,I10,r10,hD,hl,n10⟩:=hPz;refine v8 (bg (X:=bC X (own++fr.map (·.1)) scope cl s.heap.objs.size fp s H) _ s10 σ8 H10 (.ref D) [yv] (.ref D) [y] (fun _ H'=>H'=upd H10 D (.lst (acc++[yv]))) I10 rfl (.cons r10 .nil) ⟨D,acc,yv,rfl,rfl,hD,hl,rfl⟩) (fun _ s11 hPz=>?_) (fun _ _ z=>False.elim z);obtain⟨_,H11,I11,_,e11⟩:=hPz;subst e11;exact again I11 n10
 exact codeAny_compStart_list (loop _ rfl) (T.self _ 0 _ _ _ st4 (loop _ rfl))
theorem cR{elt tg iter:Expr}{ifs:List Expr}{scope:Scope}{pos:Pos}{wi:TI}{g:TG}{tt:TT}{te:TE}(own:List Str)(fr:List (Str×Nat))(cl:List (Str×Addr))
  (hc:X.calm=true) (hclos:closureFor scope X.env=pure cl) (hkind:scope.kind=.function) (hnc:∀y∈scope.names,y.2≠ .cell)
  (hnames:∀y∈scope.names,y.2=.local->scope.names.lookup y.1=some .local)
  (hcl:∀x c,cl.lookup x=some c->X.env.cells.lookup x=some c)
  (hkin:∀x,((relabel scope X.env).names.lookup x=some .cell\/(relabel scope X.env).names.lookup x=some .free)->∃c,cl.lookup x=some c)
  (hfr:∀p∈fr,X.N[p.2]?=some p.1/\X.env.kindOf p.1=some .cell) (hvis:∀p∈fr,(relabel scope X.env).names.lookup p.1=some .cell)
  (hw:∀x σ H R,σ.length=own.length+fr.length->(∀(i:Nat),i<own.length->σ[i]?=some none)->g x σ H R->g x σ H fun σ2 H2=>Wk σ σ2/\R σ2 H2)
  (hi:PI X tg iter wi)
  (hg:∀C ex s H,PG (bC X (own++fr.map (·.1)) scope cl C ex s H) tg g)
  (ht:∀C ex s H,pO (bC X (own++fr.map (·.1)) scope cl C ex s H) ifs tt)
  (he:∀C ex s H,PE (bC X (own++fr.map (·.1)) scope cl C ex s H) elt te)
  (hs:∀x,foldedSetIterable iter X.env x=pure x:=by intro _;rfl):
  PE X (.ListComp elt [⟨tg,iter,ifs,0⟩] scope pos) (rk wi g tt te own.length (fr.map (·.2))):=by
 intro pins s σ H Q I h;rw[eval_ListComp];refine wpAny_comprehension_free (use:=none) rfl hs hclos hkind hnames (thn (hi pins s σ H _ I h) fun v s1 h1=>thn h1 fun itv s2 h2=>?_);obtain⟨it,fp,tn,J,H2,e,I2,T,st2,f2,h2⟩:=h2;subst e;obtain⟨W,⟨m0,w0⟩,turn⟩:=h2 s2.heap.objs.size I2.fresh;have I3:=I2.lnew (its:=[]) (ys:=[]) (t':=s2.toks) .nil (vN _);refine wpAny_newObj_type (T:="list") ?_;refine ia (RR:=fun acc C=>compPost (model X.prog X.w) X.A X.xe none (EP X pins σ Q) acc C) (W:=W) (m0:=m0) (D:=s2.heap.objs.size) (own:=own) (fr:=fr)
  (fun s6 H5 m I7 hn fc q=>⟨m,hn,fun h7 sb=>⟨.ref s2.heap.objs.size,H5,I7.turned (t':=s6.toks) (fun b o hb e=>(sb.2 b hb).trans e) fc.1 fc.2.1 fc.2.2.2.1 fc.2.2.2.2.1 fc.2.2.2.2.2,rfl,q⟩⟩) hc hkind hnc hcl hkin hfr hvis hw hg ht he I3 T (T.keep _ _ _ st2 fun b _ o e=>uI _ e) (fun b hb=>?_) w0 turn
 obtain⟨o,e,_⟩:=T.obj _ _ st2 b hb;exact⟨by rw[ak (vv (uU e))];exact(f2 b hb).1,(f2 b hb).2⟩
theorem mn{elt tg iter:Expr}{ifs:List Expr}{scope:Scope}{pos spos py:Pos}{y:Str}{i:Nat}{wi:TI}{g:TG}{tt:TT}{te:TE}(hN:X.N.Nodup)(hiy:X.N[i]?=some y)(hy:Loc X.env.scope y)(own:List Str)(fr:List (Str×Nat))(cl:List (Str×Addr))
  (hc:X.calm=true) (hclos:closureFor scope X.env=pure cl) (hkind:scope.kind=.function) (hnc:∀y∈scope.names,y.2≠ .cell)
  (hnames:∀y∈scope.names,y.2=.local->scope.names.lookup y.1=some .local)
  (hcl:∀x c,cl.lookup x=some c->X.env.cells.lookup x=some c)
  (hkin:∀x,((relabel scope X.env).names.lookup x=some .cell\/(relabel scope X.env).names.lookup x=some .free)->∃c,cl.lookup x=some c)
  (hfr:∀p∈fr,X.N[p.2]?=some p.1/\X.env.kindOf p.1=some .cell) (hvis:∀p∈fr,(relabel scope X.env).names.lookup p.1=some .cell)
  (hw:∀x σ H R,σ.length=own.length+fr.length->(∀(i:Nat),i<own.length->σ[i]?=some none)->g x σ H R->g x σ H fun σ2 H2=>Wk σ σ2/\R σ2 H2)
  (hi:PI X tg iter wi)
  (hg:∀C ex s H,PG (bC X (own++fr.map (·.1)) scope cl C ex s H) tg g)
  (ht:∀C ex s H,pO (bC X (own++fr.map (·.1)) scope cl C ex s H) ifs tt)
  (he:∀C ex s H,PE (bC X (own++fr.map (·.1)) scope cl C ex s H) elt te)
  (hsw:swapsWith (.ListComp elt [⟨tg,iter,ifs,0⟩] scope pos) (some (.Name y py)) spos.line X.env=pure true:=by rfl)
  (hs:∀x,foldedSetIterable iter X.env x=pure x:=by intro _;rfl)
  (hf:X.fn y=true\/X.env.scope.names.lookup y=some .local:=by first|exact .inl rfl|exact .inr rfl|assumption):
  PS X (.Assign [.Name y py] (.ListComp elt [⟨tg,iter,ifs,0⟩] scope pos) spos) (ti (rk wi g tt te own.length (fr.map (·.2))) (fh i)):=by
 intro pins s σ H D I h;rw[exec_Assign_Name_used _ _ _ _ hsw];refine uE (wpAny_standAt (uE ?_));show wpAny _ _ (do let _ <-comprehension (.ListComp elt [⟨tg,iter,ifs,0⟩] scope pos) scope X.env _ (newList []) false (eval iter X.env) (some (assign (.Name y py) X.env))) _ _ s;refine uE (v8 (wpAny_comprehension_free (use:=some (assign (.Name y py) X.env)) (Q:=fun _ s'=>SP X pins D .next s') rfl hs hclos hkind hnames (thn (hi pins s σ H _ I h) fun v s1 h1=>thn h1 fun itv s2 h2=>?_)) (fun _ s' hq=>uG (uG hq)) fun _ _ e=>e);obtain⟨it,fp,tn,J,H2,e,I2,T,st2,f2,h2⟩:=h2;subst e;obtain⟨W,⟨m0,w0⟩,turn⟩:=h2 s2.heap.objs.size I2.fresh;have I3:=I2.lnew (its:=[]) (ys:=[]) (t':=s2.toks) .nil (vN _);refine wpAny_newObj_type (T:="list") ?_;refine ia (Q:=fun v H5=>fh i v σ H5 D.nx) (RR:=fun acc C=>compPost (model X.prog X.w) X.A X.xe (some (assign (.Name y py) X.env)) (fun _ s'=>SP X pins D .next s') acc C) (W:=W) (m0:=m0) (D:=s2.heap.objs.size) (own:=own) (fr:=fr)
  (fun s6 H5 m I7 hn fc q=>?_) hc hkind hnc hcl hkin hfr hvis hw hg ht he I3 T (T.keep _ _ _ st2 fun b _ o e=>uI _ e) (fun b hb=>?_) w0 turn
 ·show wpAny _ _ (assign (.Name y py) X.env (.ref s2.heap.objs.size)) _ _ _;refine wpAny_assign_Name (iH (v:=.ref s2.heap.objs.size) I7 hN hiy hy rfl (fun s' I' hsb=>?_) hf);obtain⟨a,sb,ha⟩:=hsb;have hne:s2.heap.objs.size+1≠a\/True:=.inr trivial;have hCa:a≠({s2 with heap:=s2.heap.push {cls:=.type "list",data:=.seq ([]:List Value).toArray},toks:=s2.toks}:Shared).heap.objs.size:=by
   rcases ha with rfl|ha
   ·exact Ne.symm fc.2.1
   ·exact fc.2.2.2.2.1 y a ha
  refine⟨m,hn.sameBut sb (Ne.symm hCa),fun h7 sb7=>?_⟩;exact⟨_,H5,I'.turned (t':=s'.toks) (fun b o hb e=>(sb7.2 b hb).trans e) fc.1 fc.2.1 fc.2.2.2.1 fc.2.2.2.2.1 fc.2.2.2.2.2,q⟩
 ·obtain⟨o,e,_⟩:=T.obj _ _ st2 b hb;exact⟨by rw[ak (vv (uU e))];exact(f2 b hb).1,(f2 b hb).2⟩
noncomputable def fN(env:Env)(xs:List Str):List (Str×Addr):=xs.map fun x=>(x,(env.cells.lookup x).getD 0)
noncomputable def ro(names:List (Str×NameKind))(xs:List Str):Bool:=names.all fun p=>(!(decide (p.2=.cell))&& !(decide (p.2=.free)))||decide (p.1∈xs)
theorem gs{env:Env}:∀{xs:List Str}{x:Str},x∈xs->∃c,(fN env xs).lookup x=some c
 | [],_,h=>absurd h (by simp)
 |y::xs,x,h=>by
  show ∃c,List.lookup x ((y,(env.cells.lookup y).getD 0)::fN env xs)=some c;rw[List.lookup_cons];cases e:x==y with
  |true=>exact⟨_,rfl⟩
  |false=>
   rcases vn.mp h with rfl|h
   ·rw[beq_self_eq_true]at e;cases e
   ·exact gs h
theorem a9{env:Env}:∀{xs:List Str},(xs.all fun x=>(env.cells.lookup x).isSome)=true->∀x c,(fN env xs).lookup x=some c->env.cells.lookup x=some c
 | [],_,x,c,h=>by cases h
 |y::xs,ha,x,c,h=>by
  rw[List.all_cons,vK]at ha;have h':List.lookup x ((y,(env.cells.lookup y).getD 0)::fN env xs)=some c:=h;rw[List.lookup_cons]at h';cases e:x==y with
  |true=>
   rw[e]at h';have exy:x=y:=eq_of_beq e;subst exy;have hc:(env.cells.lookup x).getD 0=c:=wj h';cases q:env.cells.lookup x with
   |none=>rw[q]at ha;cases ha.1
   |some z=>rw[q]at hc;rw[<-hc];rfl
  |false=>rw[e]at h';exact a9 ha.2 x c h'
theorem dR{names:List (Str×NameKind)}{xs:List Str}{env:Env}(h:ro names xs=true):∀x,(names.lookup x=some .cell\/names.lookup x=some .free)->∃c,(fN env xs).lookup x=some c:=fun x hx=>by
 refine gs ?_;unfold ro at h;rw[List.all_eq_true]at h;rcases hx with hx|hx
 ·have:=h _ (wI hx);simpa using this
 ·have:=h _ (wI hx);simpa using this
theorem dc{n m i:Nat}(hi:i<n):∀x σ H R,σ.length=n+m->(∀(k:Nat),k<n->σ[k]?=some none)->fh i x σ H R->fh i x σ H fun σ2 H2=>Wk σ σ2/\R σ2 H2:=fun x σ H R _ h0 h=>
 ⟨⟨by simp,fun k v e=>by
  by_cases hk:k=i
  ·subst hk;rw[h0 _ hi]at e;cases e
  ·rw[List.getElem?_set_ne (Ne.symm hk)];exact e⟩,h⟩
theorem hZ{n:Nat}{g:TG}{tt:TT}{te:TE}{σ0:St}{lo:Int}{Q:VK}{D:Addr}{H:Hp}(Pv:Nat->List V->Hp->Prop)(h0:Pv 0 [] H)
  (hs:∀i acc H2,i<n->Pv i acc H2->g (.int (lo+i)) σ0 H2 fun σ2 H4=>tt σ2 H4 fun b H5=>if b=true then te σ2 H5 fun y H6=>H6 D=some (.lst acc)/\acc.length<sizeLine/\Pv (i+1) (acc++[y]) (upd H6 D (.lst (acc++[y])))else Pv (i+1) acc H5)
  (hd:∀acc H2,Pv n acc H2->Q (.ref D) H2):
  ∃W:Nat->Nat->List V->Hp->Prop,(∃m,W 0 m [] H)/\∀i m acc H2,W i m acc H2->
   ((Itr lo n).stop i H2/\Q (.ref D) H2)\/((Itr lo n).go i H2/\∃N:List V->Hp->Prop,(∀acc' H',N acc' H'->∃m',m'<m/\W (i+1) m' acc' H')/\∀x H3,(Itr lo n).yld i H2 x H3->g x σ0 H3 fun σ2 H4=>tt σ2 H4 fun b H5=>if b=true then te σ2 H5 fun y H6=>H6 D=some (.lst acc)/\acc.length<sizeLine/\N (acc++[y]) (upd H6 D (.lst (acc++[y])))else N acc H5):=by
 refine⟨fun i m acc H=>m=n-i/\i<=n/\Pv i acc H,⟨n,by simp,vN _,h0⟩,?_⟩;rintro i m acc H2 ⟨rfl,hi,p⟩;by_cases hlt:i<n
 ·refine .inr ⟨hlt,Pv (i+1),fun acc' H' p'=>⟨n-(i+1),by omega,rfl,hlt,p'⟩,fun x H3 y=>?_⟩;obtain⟨e,y⟩:=y;subst e y;exact hs i acc _ hlt p
 ·have e:i=n:=by omega
  subst e;exact .inl ⟨uW _,hd acc H2 p⟩
theorem nL{K:Frag}{a:Addr}{xs:List V}{g:TG}{tt:TT}{te:TE}{σ0:St}{Q:VK}{D:Addr}{H:Hp}(Pv:Nat->List V->Hp->Prop)(h0:Pv 0 [] H)(hl:∀i acc H,i<=xs.length->Pv i acc H->SqL K H a xs)
  (hs:∀i x acc H2,xs[i]?=some x->Pv i acc H2->g x σ0 H2 fun σ2 H4=>tt σ2 H4 fun b H5=>if b=true then te σ2 H5 fun y H6=>H6 D=some (.lst acc)/\acc.length<sizeLine/\Pv (i+1) (acc++[y]) (upd H6 D (.lst (acc++[y])))else Pv (i+1) acc H5)
  (hd:∀acc H2,Pv xs.length acc H2->Q (.ref D) H2):
  ∃W:Nat->Nat->List V->Hp->Prop,(∃m,W 0 m [] H)/\∀i m acc H2,W i m acc H2->
   ((Itl K a).stop i H2/\Q (.ref D) H2)\/((Itl K a).go i H2/\∃N:List V->Hp->Prop,(∀acc' H',N acc' H'->∃m',m'<m/\W (i+1) m' acc' H')/\∀x H3,(Itl K a).yld i H2 x H3->g x σ0 H3 fun σ2 H4=>tt σ2 H4 fun b H5=>if b=true then te σ2 H5 fun y H6=>H6 D=some (.lst acc)/\acc.length<sizeLine/\N (acc++[y]) (upd H6 D (.lst (acc++[y])))else N acc H5):=by
 refine⟨fun i m acc H=>m=xs.length-i/\i<=xs.length/\Pv i acc H,⟨xs.length,by simp,vN _,h0⟩,?_⟩;rintro i m acc H2 ⟨rfl,hi,p⟩;have q:=hl i acc H2 hi p;by_cases hlt:i<xs.length
 ·refine .inr ⟨⟨xs,xs[i],q,by simp[hlt]⟩,Pv (i+1),fun acc' H' p'=>⟨xs.length-(i+1),by omega,rfl,hlt,p'⟩,fun x H3 y=>?_⟩;obtain⟨e,y⟩:=y;subst e;exact hs i x acc _ (y xs q) p
 ·have e:i=xs.length:=by omega
  subst e;exact .inl ⟨⟨xs,q,uW _⟩,hd acc H2 p⟩
end
mutual
inductive IsD(K:Frag)(H:Hp):PyData->V->Prop
 |non:IsD K H .none .non
 |bl (b:Bool):IsD K H (.bool b) (.bl b)
 |int (i:Int):IsD K H (.int i) (.int i)
 |str (x:Str):IsD K H (.str x) (.str x)
 |tup {a:Addr} {vs:List V} {ds:List PyData}:SqT K H a vs->fQ K H ds vs->IsD K H (.tuple ds) (.ref a)
 |lst {a:Addr} {vs:List V} {ds:List PyData}:SqL K H a vs->fQ K H ds vs->IsD K H (.list ds) (.ref a)
inductive fQ(K:Frag)(H:Hp):List PyData->List V->Prop
 |nil:fQ K H [] []
 |cons {d:PyData} {v:V} {ds:List PyData} {vs:List V}:IsD K H d v->fQ K H ds vs->fQ K H (d::ds) (v::vs)
end
section
variable{X:Cx}{pins:List (Addr×Obj)}{σ:St}{H:Hp}{s:Shared}
mutual
theorem IsD.reads(I:Inv X pins σ H s):∀{d:PyData}{v:V}{u:Value},IsD X.K H d v->RelV v u->∃as,Reads s.heap u d as
 |_,_,_,.non,r=>by cases r;exact⟨_,.none⟩
 |_,_,_,.bl b,r=>by cases r;exact⟨_,.bool b⟩
 |_,_,_,.int i,r=>by obtain⟨t,rfl⟩:=r;exact⟨_,.int i t⟩
 |_,_,_,.str x,r=>by obtain⟨t,rfl⟩:=r;exact⟨_,.str x t⟩
 |_,_,_,.tup h1 h2,r=>by cases r;obtain⟨its,rv,⟨o,e,c,n,d⟩,hz⟩:=I.tuple h1;obtain⟨as,ra⟩:=fQ.reads I h2 rv;exact⟨_,.tuple e c d (by simpa using ra)⟩
 |_,_,_,.lst h1 h2,r=>by cases r;obtain⟨its,rv,pl,hz⟩:=I.list h1;obtain⟨o,e,c,n,d⟩:=pl.isList;obtain⟨as,ra⟩:=fQ.reads I h2 rv;exact⟨_,.list e c d (by simpa using ra)⟩
theorem fQ.reads(I:Inv X pins σ H s):∀{ds:List PyData}{vs:List V}{us:List Value},fQ X.K H ds vs->Vals vs us->∃as,ReadsAll s.heap us ds as
 |_,_,_,.nil,.nil=>⟨_,.nil⟩
 |_,_,_,.cons h t,.cons r rs=>by obtain⟨as,ra⟩:=IsD.reads I h r;obtain⟨bs,rb⟩:=fQ.reads I t rs;exact⟨_,.cons ra rb⟩
end
noncomputable def ux(K:Frag):R2:=fun x y H Q=>∃d1 d2,IsD K H d1 x/\IsD K H d2 y/\d1.canLay0=true/\d2.canLay0=true/\d2.depth<=50/\Q (.bl (PyData.eqv d1 d2)) H
noncomputable def tD(K:Frag):R2:=fun x y H Q=>∃d1 d2,IsD K H d1 x/\IsD K H d2 y/\d1.canLay0=true/\d2.canLay0=true/\d2.depth<=50/\Q (.bl (!PyData.eqv d1 d2)) H
theorem rW(hu:X.A.units+64<cLine):OpR X (compareOp .Eq) (ux X.K):=by intro pins s σ H x y v u Q I rx ry h;obtain⟨d1,d2,h1,h2,c1,c2,hd,q⟩:=h;obtain⟨as,ra⟩:=IsD.reads I h1 rx;obtain⟨bs,rb⟩:=IsD.reads I h2 ry;exact SeqAt.rcAt_reads ra rb c1 c2 (by omega) _ _ _ _ (show EP X pins σ Q _ s from⟨.bl _,H,I,rfl,q⟩)
theorem gS(hu:X.A.units+64<cLine):OpR X (compareOp .NotEq) (tD X.K):=by intro pins s σ H x y v u Q I rx ry h;obtain⟨d1,d2,h1,h2,c1,c2,hd,q⟩:=h;obtain⟨as,ra⟩:=IsD.reads I h1 rx;obtain⟨bs,rb⟩:=IsD.reads I h2 ry;exact SeqAt.rcNeAt_reads ra rb c1 c2 (by omega) _ _ _ _ (show EP X pins σ Q _ s from⟨.bl _,H,I,rfl,q⟩)
theorem oD:OpR X (binaryOp .FloorDiv) (rI (fun _ j=>0<j/\j.natAbs.log2<9000) fun i j=>.int (i / j)):=opI fun i j _ _ _ _ _ hc q=>by have h1:(0:Int)<j:=hc.1;exact floordiv_int (by omega) (by rw[Int.fdiv_eq_ediv_of_nonneg i (by omega)];exact q) (.inl (PyProof.noPylong_of_log2 hc.2))
def tG:V->List V->Hp->VK->Prop:=fun x xs H Q=>∃i,x=.int i/\xs=[]/\Q (.int (Builtin.Int.intBits i:Nat)) H
theorem qv:MtR X "int.bit_length" tG:=by intro pins s σ H x xs v us Q I rx rv h;obtain⟨i,rfl,rfl,q⟩:=h;cases rv;obtain⟨t,rfl⟩:=rx;exact call_int_bit_length ⟨.int _,H,I.tok _,⟨_,rfl⟩,q⟩
def uv(K:Frag):List V->Hp->VK->Prop:=fun xs H Q=>∃x n t b,xs=[x,.ty n]/\dG K H x t/\kitOne K t (.type n)=some b/\Q (.bl b) H
theorem fO:eI X (.builtin "isinstance") (uv X.K):=by
 intro pins s σ H xs us Q I rs h;obtain⟨x,n,t,b,rfl,ty,e,q⟩:=h;cases rs with
 |cons r rr=>
  cases rr with
  |cons r2 rr=>cases rr;cases r2;exact nI I r ty e fun tk=>⟨.bl b,H,I.tok _,rfl,q⟩
structure Df(P:Program)(w:World)(K:Frag)(mg:Str->Option Value)(base:Heap)(k:Nat)(x:Str)(ps:List Str)(sp:Sp):Prop where
 ex:∃f fd,jN P w K mg base CX0 k f fd ps sp/\Binds K fd ps []/\mg x=some (.ref f)/\keepIn K (.ref f)=true
structure Tx(K:Frag)(mg:Str->Option Value)(x:Str)(st:Stmt)(ps:List Str):Prop where
 ex:∃f fd,Fun K x x st f fd/\Binds K fd ps []/\mg x=some (.ref f)
theorem Tx.df{P:Program}{w:World}{K:Frag}{mg:Str->Option Value}{base:Heap}{x:Str}{st:Stmt}{N ps:List Str}{k:Nat}{sp:Sp}(T:Tx K mg x st ps)(S:aB N ps (au st))
  (len:∀vs H Q E,sp vs H Q E->vs.length=ps.length)
  (hbody:∀(f:Addr)(cdv:Value)(A:Around)(outer:List Env)(s:Shared)(H:Hp)(vs:List V)(Q:VK)(E:XK),dH k (A.deeper (envOfC x (au st) s.heap.objs.size f cdv))->sp vs H Q E->
   ∃t,PSs (lJ CX0 P w K mg base N x (au st) f cdv A outer s H E).nox (cJ st) t/\t {nx:=fun _ H'=>Q .non H',rt:=Q} (start N vs) H):Df P w K mg base (k+1) x ps sp:=by
 obtain⟨f,fd,F,b,hm⟩:=T.ex;exact⟨f,fd,F.ok S len fun cdv A outer s H vs Q E hr h=>hbody f cdv A outer s H vs Q E hr h,b,hm,F.kp⟩
def tCF(sp:Sp)(t:TA):TE:=fun σ H Q=>t σ H fun vs H1=>sp vs H1 Q E0
theorem aL{j k:Nat}{x:Str}{ps:List Str}{sp:Sp}{p pos:Pos}{e:Expr}{es:List Expr}{t:TA}(D:Df X.prog X.w X.K X.mg X.base j x ps sp)(hr:dH k X.A)(ha:PA X (e::es) t)(hg:Gl X x:=by rfl)(hj:j<=k:=by decide)
  (hdb:(x==("__debug__":Str))=false:=by decide) (he:starEach (e::es) X.env=(false,eval e X.env)::starEach es X.env:=by rfl) (hpl:(backTo pos (starEach es X.env)).any (·.1)=false:=by rfl):
  PE X (.Call (.Name x p) (e::es) [] pos) (tCF sp t):=by
 obtain⟨f,fd,F,b,hm,kp⟩:=D.ex;have h:=qk (ds:=[]) (dvs:=[]) (E:=E0) (p:=p) (pos:=pos) F (hr.mono hj) hg hm kp b .nil tH ha hdb he hpl;have e1:nV sp [] E0 t=tCF sp t:=by funext σ H Q;unfold nV tCF;simp only[vG]
 rw[e1]at h;exact h
structure Bn(mg:Str->Option Value):Prop where
 len:mg "len"=none
 range:mg "range"=none
 isinstance:mg "isinstance"=none
 int:mg "int"=none
 bool:mg "bool"=none
 list:mg "list"=none
 tuple:mg "tuple"=none
 str:mg "str"=none
 dict:mg "dict"=none
 sorted:mg "sorted"=none
 enumerate:mg "enumerate"=none
 min:mg "min"=none
 max:mg "max"=none
 set:mg "set"=none
theorem aq.upd{H:Hp}{a:Addr}{o:HO}(h:H a=none):aq H (upd H a o):=fun b u e=>by rw[ak (bH e h)];exact e
theorem aq.tup{K:Frag}{H H':Hp}{a:Addr}{xs:List V}(e:aq H H')(h:SqT K H a xs):SqT K H' a xs:=by
 rcases h with(h|⟨o,h⟩)|h
 ·exact .inl (.inl (e _ _ h))
 ·exact .inl (.inr ⟨o,e _ _ h⟩)
 ·exact .inr h
end
theorem sQ{K:Frag}{h:Heap}{mg:Str->Option Value}{x:Str}{st:Stmt}{ps:List Str}{f:Addr}{oc:Value}{od an:Option Addr}{osl:Array (Option Value)}{kV doc pm cdv ct:Value}(X:K.In h)(G:h.Ns mainGlobals mg)
  (a:nsIn K mainGlobals x=some (some (.ref f)))
  (l:K.lookup f=some ⟨oc,od,.func (fnOf x x (dW st) (cJ st) (au st) .none kV doc pm an cdv ct),osl⟩)
  (c:codeIn K cdv x=true) (k:keepIn K (.ref f)=true)
  (hb:∀(kV doc pm:Value)(an:Option Addr)(cdv ct:Value)(us:List Value),us.length=ps.length->bindArgs (fnOf x x (dW st) (cJ st) (au st) .none kV doc pm an cdv ct) ⟨us,[]⟩=pure (ps.zip us)):Tx K mg x st ps:=
 ⟨f,_,pC l c k,(pC l c k).binds hb,PySem.W.mg_of X G a⟩
theorem t7{K:Frag}{h:Heap}{mg:Str->Option Value}(X:K.In h)(G:h.Ns mainGlobals mg)
  (z0:nsIn K mainGlobals "len"=some none) (z1:nsIn K mainGlobals "range"=some none) (z2:nsIn K mainGlobals "isinstance"=some none)
  (z3:nsIn K mainGlobals "int"=some none) (z4:nsIn K mainGlobals "bool"=some none) (z5:nsIn K mainGlobals "list"=some none) (z6:nsIn K mainGlobals "tuple"=some none)
  (z7:nsIn K mainGlobals "str"=some none) (z8:nsIn K mainGlobals "dict"=some none) (z9:nsIn K mainGlobals "sorted"=some none) (z10:nsIn K mainGlobals "enumerate"=some none)
  (z11:nsIn K mainGlobals "min"=some none) (z12:nsIn K mainGlobals "max"=some none) (z13:nsIn K mainGlobals "set"=some none):Bn mg:=
 ⟨vy X G z0,vy X G z1,vy X G z2,vy X G z3,vy X G z4,vy X G z5,vy X G z6,vy X G z7,vy X G z8,vy X G z9,vy X G z10,vy X G z11,vy X G z12,vy X G z13⟩
def sX(t u:TS):TS:=fun D σ H=>∃R:St->Hp->Prop,t {D with nx:=R} σ H/\∀σ' H',R σ' H'->u D σ' H'
theorem bz{X:Cx}{st:Stmt}{rest:List Stmt}{t u:TS}(h1:PS X st t)(h2:PSs X rest u):PSs X (st::rest) (sX t u):=by
 intro pins s σ H D I h;obtain⟨R,h,hR⟩:=h;refine wpAny_execs_cons (thn (h1 pins s σ H {D with nx:=R} I h) fun f s1 q=>?_);cases f with
 |next=>obtain⟨σ',H',I',q⟩:=q;exact h2 pins s1 σ' H' D I' (hR σ' H' q)
 |ret v=>exact q
 |brk=>exact q
 |cont=>exact q
theorem aE{n:Nat}(h:Nat.ble n 1000=true):n<=sizeLine:=wF (Nat.le_of_ble_eq_true h) (by decide)
end L2
namespace LM
noncomputable def b6(c:Nat):List Nat:=(List.range 64).filter c.testBit
theorem gY{c k:Nat}(hc:c<2^64):k∈b6 c<->c.testBit k=true:=by
 unfold b6;rw[List.mem_filter,vD];constructor
 ·exact fun h=>h.2
 ·intro h;refine⟨?_,h⟩;rcases wa k 64 with q|q
  ·exact q
  ·rw[Nat.testBit_lt_two_pow (uQ hc (vJ (by decide) q))]at h;cases h
theorem fY{c m n:Nat}(hm:c<2^m)(h:m<=n):(List.range m).filter c.testBit=(List.range n).filter c.testBit:=by
 obtain⟨d,rfl⟩:=Nat.exists_eq_add_of_le h
 induction d with
 |zero=>rfl
 |succ d ih=>rw[<-Nat.add_assoc,List.range_succ,wU,<-ih (by omega)];have e:c.testBit (m+d)=false:=Nat.testBit_lt_two_pow (uQ hm (vJ (by decide) (by omega)));simp[e]
noncomputable def bG(w h k:Nat):List Nat:=
 (if 0<k / w then[k-w]else[])++((if 0<k % w then[k-1]else[])++((if k % w+1<w then[k+1]else[])++(if k / w+1<h then[k+w]else[])))
theorem dA{w h k j:Nat}:j∈bG w h k<->(0<k / w/\j=k-w)\/(0<k % w/\j=k-1)\/(k % w+1<w/\j=k+1)\/(k / w+1<h/\j=k+w):=by unfold bG;by_cases h1:0<k / w<;>by_cases h2:0<k % w<;>by_cases h3:k % w+1<w<;>by_cases h4:k / w+1<h<;>simp[h1,h2,h3,h4]
theorem qt{w h k j:Nat}(hw:0<w)(hk:k<w*h)(hj:j∈bG w h k):j<w*h:=by
 have e:w*(k / w)+k % w=k:=wJ k w;have r:k % w<w:=Nat.mod_lt k hw;have q:k / w<h:=(Nat.div_lt_iff_lt_mul hw).mpr (by rw[Nat.mul_comm];exact hk);rcases dA.mp hj with⟨_,rfl⟩|⟨_,rfl⟩|⟨h3,rfl⟩|⟨h4,rfl⟩
 ·omega
 ·omega
 ·have:w*(k / w+1)<=w*h:=Nat.mul_le_mul_left w q;rw[Nat.mul_add]at this;omega
 ·have:w*(k / w+1+1)<=w*h:=Nat.mul_le_mul_left w h4;rw[Nat.mul_add,Nat.mul_add]at this;omega
theorem oJ(w h k:Nat):(bG w h k).length<=4:=by unfold bG;by_cases h1:0<k / w<;>by_cases h2:0<k % w<;>by_cases h3:k % w+1<w<;>by_cases h4:k / w+1<h<;>simp[h1,h2,h3,h4]
noncomputable def cS(a:Nat)(js:List Nat):Nat:=js.foldl (fun a j=>a||| 2^j) a
theorem length_le_of_subset{α:Type}[DecidableEq α]:∀{l1 l2:List α},l1.Nodup->(∀x∈l1,x∈l2)->l1.length<=l2.length
 | [],_,_,_=>vN _
 |x::l1,l2,nd,h=>by
  obtain⟨nx,nd⟩:=vM.mp nd;have hx:x∈l2:=h x uN;have ih:=length_le_of_subset (l1:=l1) (l2:=l2.erase x) nd fun y hy=>by have hne:y≠x:=fun e=>nx (e▸hy);exact(List.mem_erase_of_ne hne).mpr (h y (uL _ hy))
  rw[List.length_erase_of_mem hx]at ih;have:=List.length_pos_of_mem hx;rw[wQ];omega
theorem iR{w h k j:Nat}(hw:0<w)(hk:k<w*h)(hj:j∈bG w h k):k∈bG w h j:=by
 have e:w*(k / w)+k % w=k:=wJ k w;have r:k % w<w:=Nat.mod_lt k hw;have q:k / w<h:=(Nat.div_lt_iff_lt_mul hw).mpr (by rw[Nat.mul_comm];exact hk);rw[dA];rcases dA.mp hj with⟨h1,rfl⟩|⟨h2,rfl⟩|⟨h3,rfl⟩|⟨h4,rfl⟩
 ·have hwk:w<=k:=by
   have:=Nat.mul_le_mul_left w h1;omega
  have ed:(k-w) / w=k / w-1:=by
   have:k=(k-w)+w:=(by omega);have e2:k / w=(k-w) / w+1:=by
    conv=>lhs;rw[this]
    exact Nat.add_div_right _ hw
   omega
  refine .inr (.inr (.inr ⟨by rw[ed];omega,by omega⟩))
 ·have e3:(k-1) % w=k % w-1:=by
   have:k-1=w*(k / w)+(k % w-1):=(by omega);rw[this,Nat.mul_add_mod];exact Nat.mod_eq_of_lt (by omega)
  refine .inr (.inr (.inl ⟨by rw[e3];omega,by omega⟩))
 ·have e3:(k+1) % w=k % w+1:=by
   have:k+1=w*(k / w)+(k % w+1):=(by omega);rw[this,Nat.mul_add_mod];exact Nat.mod_eq_of_lt (by omega)
  refine .inr (.inl ⟨by rw[e3];omega,by omega⟩)
 ·have ed:(k+w) / w=k / w+1:=Nat.add_div_right k hw;exact .inl ⟨by rw[ed];exact Nat.succ_pos _,by omega⟩
noncomputable def oM(w h k:Int):List Int:=
 (if decide (0<k / w)=true then[k-w]else[])++((if decide (0<k % w)=true then[k-1]else[])++((if decide (k % w<w-1)=true then[k+1]else[])++(if decide (k / w<h-1)=true then[k+w]else[])))
theorem oK(w h k:Nat):oM w h k=(bG w h k).map fun j:Nat=>(j:Int):=by
 unfold oM bG;have e1:((k:Int) / (w:Int))=((k / w:Nat):Int):=(Int.natCast_ediv k w).symm;have e2:((k:Int) % (w:Int))=((k % w:Nat):Int):=(Int.natCast_emod k w).symm;have q1:0<k / w->w<=k:=fun h=>by
  rcases wa k w with q|q
  ·rw[Nat.div_eq_of_lt q]at h;omega
  ·exact q
 have q2:0<k % w->1<=k:=fun h=>by
  rcases Nat.eq_zero_or_pos k with q|q
  ·subst q;simp at h
  ·exact q
 rw[e1,e2];have b1:(if decide ((0:Int)<((k / w:Nat):Int))=true then[(k:Int)-w]else[])=(if 0<k / w then[k-w]else[]).map fun j:Nat=>(j:Int):=by
  by_cases h:0<k / w
  ·have:=q1 h;rw[uM (by rw[uX];omega),uM h,List.map_singleton];congr 1;omega
  ·rw[uK (by rw[uX];omega),uK h];rfl
 have b2:(if decide ((0:Int)<((k % w:Nat):Int))=true then[(k:Int)-1]else[])=(if 0<k % w then[k-1]else[]).map fun j:Nat=>(j:Int):=by
  by_cases h:0<k % w
  ·have:=q2 h;rw[uM (by rw[uX];omega),uM h,List.map_singleton];congr 1;omega
  ·rw[uK (by rw[uX];omega),uK h];rfl
 have b3:(if decide (((k % w:Nat):Int)<(w:Int)-1)=true then[(k:Int)+1]else[])=(if k % w+1<w then[k+1]else[]).map fun j:Nat=>(j:Int):=by
  by_cases h:k % w+1<w
  ·rw[uM (by rw[uX];omega),uM h,List.map_singleton];congr 1
  ·rw[uK (by rw[uX];omega),uK h];rfl
 have b4:(if decide (((k / w:Nat):Int)<(h:Int)-1)=true then[(k:Int)+w]else[])=(if k / w+1<h then[k+w]else[]).map fun j:Nat=>(j:Int):=by
  by_cases hh:k / w+1<h
  ·rw[uM (by rw[uX];omega),uM hh,List.map_singleton];congr 1
  ·rw[uK (by rw[uX];omega),uK hh];rfl
 rw[b1,b2,b3,b4];simp only[vW]
end LM
namespace My
open PySem L2 LM PyProof.Rows
theorem lQ(a b:Nat):Builtin.bitAnd (a:Int) (b:Int)=((a&&& b:Nat):Int):=by rw[bitAnd_pp (by omega) (by omega)];simp only[vE]
theorem sy(c:Nat)(k:Int)(h:0<=k):decide (V.int (Builtin.bitAnd ((c:Int) / 2^k.toNat) 1)=V.int 1)=(decide (0<=k)&&c.testBit k.toNat):=by
 have e:(c:Int) / 2^k.toNat=((c / 2^k.toNat:Nat):Int):=by rw[Int.natCast_ediv,Int.natCast_pow];rfl
 have e2:Builtin.bitAnd ((c:Int) / 2^k.toNat) 1=((c / 2^k.toNat % 2:Nat):Int):=by rw[e];exact(lQ _ 1).trans (by rw[Nat.and_one_is_mod])
 rw[e2,Nat.testBit_eq_decide_div_mod_eq,ve h,Bool.true_and,wo,uX,uX];constructor
 ·intro z;have:=V.int.inj z;omega
 ·intro z;rw[z];rfl
theorem bits_le{c:Nat}(hc:c<2^64):Builtin.Int.intBits (c:Int)<=64:=by
 unfold Builtin.Int.intBits;by_cases h:(c:Int)==0
 ·rw[uM h];omega
 ·rw[uK h];have h0:c≠0:=fun z=>h (by rw[z];rfl);have:c.log2<64:=(Nat.log2_lt h0).mpr hc;simp only[Int.natAbs_natCast];omega
theorem lP{c:Nat}(hc:c<2^64):(List.range (Builtin.Int.intBits (c:Int))).filter c.testBit=b6 c:=by
 refine fY ?_ (bits_le hc);unfold Builtin.Int.intBits;by_cases h:(c:Int)==0
 ·rw[uM h];have:(c:Int)=0:=eq_of_beq h;have:c=0:=by omega
  subst this;decide
 ·rw[uK h];simp only[Int.natAbs_natCast];exact Nat.lt_log2_self
theorem ng(c i:Nat):(decide ((0:Int)<=0+(i:Int))&&c.testBit ((0:Int)+(i:Int)).toNat)=c.testBit i:=by rw[ve (by omega),Bool.true_and];congr 1;omega
theorem pB{l:List Nat}{i:Nat}{y:V}(h:((l.map fun k:Nat=>(k:Int)).map V.int)[i]?=some y):∃k,l[i]?=some k/\y=V.int (k:Int):=by
 rw[vz,vz]at h;cases e:l[i]? with
 |none=>rw[e]at h;cases h
 |some k=>rw[e]at h;exact⟨k,rfl,(wj h).symm⟩
theorem eu(j:Nat):(1:Int)*2^((j:Int)).toNat=((2^j:Nat):Int):=by rw[Int.one_mul,vE,Int.natCast_pow];rfl
theorem j0(j:Int):(0:Int)<1*2^j.toNat:=by rw[Int.one_mul];exact Int.pow_pos (by decide)
theorem qh(k:Nat)(h:k<=64):((1:Int)*2^((k:Int)).toNat).natAbs.log2<9000:=by rw[eu,Int.natAbs_natCast,Nat.log2_two_pow];omega
theorem qE(c k:Nat):decide (V.int ((c:Int) / (1*2^((k:Int)).toNat) % 2)=V.int 1)=c.testBit k:=by
 have e:(c:Int) / (1*2^((k:Int)).toNat) % 2=((c / 2^k % 2:Nat):Int):=by rw[eu,Int.natCast_emod,Int.natCast_ediv];rfl
 rw[e,Nat.testBit_eq_decide_div_mod_eq,wo,uX,uX];constructor
 ·intro z;have:=V.int.inj z;omega
 ·intro z;rw[z];rfl
theorem tK(c:Int): -(2^64)<c % (2^(64:Int).toNat)/\c % (2^(64:Int).toNat)<2^64:=by
 have e:((2:Int)^(64:Int).toNat)=18446744073709551616:=by decide
 rw[e];omega
theorem qw(v:Int)(n:Nat):∃z:Nat,v % (1*2^((n:Int)).toNat)=(z:Int)/\z<2^n:=by
 have h0:(0:Int)<((2^n:Nat):Int):=by have:=Nat.two_pow_pos n;omega
 refine⟨(v % ((2^n:Nat):Int)).toNat,?_,?_⟩
 ·rw[eu,Int.toNat_of_nonneg (Int.emod_nonneg _ (by omega))]
 ·have h1:=Int.emod_lt_of_pos v h0;have h2:=Int.emod_nonneg v (show((2^n:Nat):Int)≠0 by omega);omega
noncomputable def isI:V->Bool
 | .int _=>true
 |_=>false
noncomputable def isB:V->Bool
 | .bl _=>true
 |_=>false
theorem qI(K:Frag){H:Hp}{x:V}{n:String}(ty:dG K H x (.type n)):kitOne K (.type n) (.type "int")=some (isI x||isB x):=by cases ty<;>kernel_rfl
theorem oX(K:Frag){H:Hp}{x:V}{n:String}(ty:dG K H x (.type n)):kitOne K (.type n) (.type "bool")=some (isB x):=by cases ty<;>kernel_rfl
theorem oW(K:Frag):kitOne K (.type "list") (.type "list")=some true:=by kernel_rfl
theorem sh(K:Frag):kitOne K (.type "tuple") (.type "tuple")=some true:=by kernel_rfl
theorem rp(z:Int):∃w:Nat,1+z % 8=(w:Int)/\0<w/\w<=8:=⟨(1+z % 8).toNat,by omega,by omega,by omega⟩
def SX(l:Addr)(H H':Hp):Prop:=∀b o,b≠l->H b=some o->H' b=some o
theorem SX.refl(l:Addr)(H:Hp):SX l H H:=fun _ _ _ e=>e
theorem SX.trans{l:Addr}{H H1 H2:Hp}(a:SX l H H1)(b:SX l H1 H2):SX l H H2:=fun c o n e=>b c o n (a c o n e)
theorem SX.of{l:Addr}{H H':Hp}(a:aq H H'):SX l H H':=fun c o _ e=>a c o e
theorem SX.set{l:Addr}{H:Hp}{o:HO}:SX l H (upd H l o):=fun c u n e=>by rw[ak n];exact e
theorem SX.same{l:Addr}{H H1 H2:Hp}(h:H l=none)(a:aq H H1)(b:SX l H1 H2):aq H H2:=fun c o e=>b c o (bH e h) (a c o e)
end My
namespace LM
open PyProof.Rows
theorem eT{a b:Nat}(h:∀j,a.testBit j=b.testBit j):a=b:=Nat.eq_of_testBit_eq h
theorem qY{a b:Nat}(h:∀j,a.testBit j=true<->b.testBit j=true):a=b:=Nat.eq_of_testBit_eq fun j=>by have:=h j;cases e1:a.testBit j<;>cases e2:b.testBit j<;>simp_all
theorem dQ{a n:Nat}(h:∀j,a.testBit j=true->j<n):a<2^n:=Nat.lt_pow_two_of_testBit a fun j hj=>by
 cases e:a.testBit j with
 |false=>rfl
 |true=>have:=h j e;omega
theorem bO{c n k:Nat}(hc:c<2^n)(h:c.testBit k=true):k<n:=by
 rcases wa k n with q|q
 ·exact q
 ·rw[Nat.testBit_lt_two_pow (uQ hc (vJ (by decide) q))]at h;cases h
theorem qQ(a b:Nat):(a&&& b)+(a^^^(a&&& b))=a:=by
 have h:=PyProof.Rows.nat_or_add_and (a&&& b) (a^^^(a&&& b));have e1:(a&&& b)|||(a^^^(a&&& b))=a:=eT fun j=>by simp only[Nat.testBit_or,Nat.testBit_xor,wy];cases a.testBit j<;>cases b.testBit j<;>rfl
 have e2:(a&&& b)&&& (a^^^(a&&& b))=0:=eT fun j=>by simp only[wy,Nat.testBit_xor,Nat.zero_testBit];cases a.testBit j<;>cases b.testBit j<;>rfl
 rw[e1,e2]at h;omega
noncomputable def dif(a b:Nat):Nat:=a-(a&&& b)
theorem dU(a b j:Nat):(dif a b).testBit j=(a.testBit j&& !b.testBit j):=by
 have e:dif a b=a^^^(a&&& b):=by have:=qQ a b;unfold dif;omega
 rw[e];simp only[Nat.testBit_xor,wy];cases a.testBit j<;>cases b.testBit j<;>rfl
theorem lI{a b n:Nat}(h:a<2^n):dif a b<2^n:=by unfold dif;omega
theorem rS{a b:Nat}(h:a&&& b=0):a|||b=a+b:=by have:=PyProof.Rows.nat_or_add_and a b;omega
theorem mr(k j:Nat):(2^k).testBit j=decide (k=j):=Nat.testBit_two_pow
theorem iP{j:Nat}:∀{js:List Nat}{a:Nat},(cS a js).testBit j=true<->a.testBit j=true\/j∈js
 | [],a=>by simp[cS]
 |x::js,a=>by
  have e:cS a (x::js)=cS (a||| 2^x) js:=rfl;rw[e,iP (js:=js)];simp only[Nat.testBit_or,Bool.or_eq_true,mr,uX,vn];constructor
  ·rintro((h|h)|h)
   ·exact .inl h
   ·exact .inr (.inl h.symm)
   ·exact .inr (.inr h)
  ·rintro(h|h|h)
   ·exact .inl (.inl h)
   ·exact .inl (.inr h.symm)
   ·exact .inr h
inductive Rch(w h c k:Nat):Nat->Prop where
 |here:c.testBit k=true->Rch w h c k k
 |step {j i:Nat}:Rch w h c k j->i∈bG w h j->c.testBit i=true->Rch w h c k i
theorem Rch.in{w h c k j:Nat}(r:Rch w h c k j):c.testBit j=true:=by
 cases r with
 |here e=>exact e
 |step _ _ e=>exact e
theorem Rch.trans{w h c k j i:Nat}(a:Rch w h c k j)(b:Rch w h c j i):Rch w h c k i:=by
 induction b with
 |here _=>exact a
 |step _ n e ih=>exact .step ih n e
theorem Rch.symm{w h c k j:Nat}(hw:0<w)(hc:c<2^(w*h))(r:Rch w h c k j):Rch w h c j k:=by
 induction r with
 |here e=>exact .here e
 |step r n e ih=>exact(Rch.step (.here e) (iR hw (bO hc r.in) n) r.in).trans ih
def aT(w h c k p:Nat):Prop:=∀j,p.testBit j=true<->Rch w h c k j
theorem aT.sub{w h c k p j:Nat}(a:aT w h c k p)(hj:p.testBit j=true):c.testBit j=true:=((a j).mp hj).in
theorem aT.lt{w h c k p n:Nat}(a:aT w h c k p)(hc:c<2^n):p<2^n:=dQ fun _ hj=>bO hc (a.sub hj)
theorem aT.at{w h c k p j:Nat}(hw:0<w)(hc:c<2^(w*h))(a:aT w h c k p)(hj:p.testBit j=true):aT w h c j p:=fun i=>by
 have r:=(a j).mp hj;constructor
 ·intro hi;exact(r.symm hw hc).trans ((a i).mp hi)
 ·intro ri;exact(a i).mpr (r.trans ri)
noncomputable def dC(c:Nat):Nat:=((List.range 64).find? c.testBit).getD 64
theorem jw{c L:Nat}(hL:L<64)(h1:c.testBit L=true)(h2:∀j,j<L->c.testBit j=false):dC c=L:=by
 unfold dC;have e:(List.range 64).find? c.testBit=some L:=by
  rw[List.find?_eq_some_iff_append];refine⟨h1,List.range L,(List.range (64-L-1)).map (fun x=>L+1+x),?_,fun j hj=>by simpa using h2 j (vD.mp hj)⟩;have:64=L+(1+(64-L-1)):=by omega
  conv=>lhs;rw[this]
  rw[List.range_add,List.range_add];simp[Nat.add_assoc]
 rw[e];rfl
theorem qC:∀(c:Nat),c≠0->∃L,c-(c&&& (c-1))=2^L/\c.testBit L=true/\∀j,j<L->c.testBit j=false:=by
 intro c
 induction c using Nat.strongRecOn with
 |_ c ih=>
  intro h0;rcases Nat.mod_two_eq_zero_or_one c with e|e
  ·obtain⟨L,h1,h2,h3⟩:=ih (c / 2) (by omega) (by omega);refine⟨L+1,?_,?_,?_⟩
   ·have ha:c&&& (c-1)=2*((c / 2)&&& (c / 2-1)):=by
     refine eT fun j=>?_;cases j with
     |zero=>rw[wy,Nat.testBit_zero,e,Nat.testBit_zero];simp
     |succ j=>rw[wy,Nat.testBit_succ,Nat.testBit_succ,Nat.testBit_succ,Nat.mul_div_cancel_left _ (by decide),wy];congr 2;omega
    rw[ha,Nat.pow_succ,<-h1];omega
   ·rw[Nat.testBit_succ];exact h2
   ·intro j hj;cases j with
    |zero=>rw[Nat.testBit_zero,e];rfl
    |succ j=>rw[Nat.testBit_succ];exact h3 j (by omega)
  ·refine⟨0,?_,by rw[Nat.testBit_zero,e];rfl,fun j hj=>by omega⟩;have ha:c&&& (c-1)=c-1:=by
    refine eT fun j=>?_;cases j with
    |zero=>rw[wy,Nat.testBit_zero,e,Nat.testBit_zero];simp
    |succ j=>rw[wy,Nat.testBit_succ,Nat.testBit_succ];have:(c-1) / 2=c / 2:=(by omega);rw[this,Bool.and_self]
   rw[ha];omega
theorem dB{c:Nat}(hc:c<2^64)(h0:c≠0):c.testBit (dC c)=true/\(∀j,j<dC c->c.testBit j=false)/\c-(c&&& (c-1))=2^dC c:=by obtain⟨L,h1,h2,h3⟩:=qC c h0;have e:=jw (bO hc h2) h2 h3;rw[e];exact⟨h2,h3,h1⟩
theorem oR{c n:Nat}(hc:c<2^n)(hn:n<=64)(h0:c≠0):dC c<n:=bO hc (dB (uQ hc (vJ (by decide) hn)) h0).1
inductive dI(w h:Nat):Nat->List Nat->Prop where
 |nil:dI w h 0 []
 |cons {r p:Nat} {ps:List Nat}:r≠0->aT w h r (dC r) p->dI w h (dif r p) ps->dI w h r (p::ps)
def dJ(w h c r:Nat):Prop:=∀j i,r.testBit j=true->i∈bG w h j->c.testBit i=true->r.testBit i=true
def Sub(r c:Nat):Prop:=∀j,r.testBit j=true->c.testBit j=true
theorem aT.of_closed{w h c r k p:Nat}(hcl:dJ w h c r)(hs:Sub r c)(hk:r.testBit k=true)(a:aT w h r k p):aT w h c k p:=fun j=>by
 rw[a j];constructor
 ·intro x
  induction x with
  |here e=>exact .here (hs _ e)
  |step _ n e ih=>exact .step ih n (hs _ e)
 ·intro x
  induction x with
  |here _=>exact .here hk
  |step _ n e ih=>exact .step ih n (hcl _ _ ih.in n e)
theorem ie{w h c r p:Nat}(hw:0<w)(hc:c<2^(w*h))(hcl:dJ w h c r)(hs:Sub r c){k:Nat}(a:aT w h c k p):dJ w h c (dif r p):=fun j i hj hn hi=>by
 rw[dU,vK]at hj ⊢;refine⟨hcl j i hj.1 hn hi,?_⟩;cases e:p.testBit i with
 |false=>rfl
 |true=>have:p.testBit j=true:=(a j).mpr (.step ((a i).mp e) (iR hw (bO hc (hs j hj.1)) hn) (hs j hj.1));rw[this]at hj;cases hj.2
theorem me{c r p:Nat}(hs:Sub r c):Sub (dif r p) c:=fun j hj=>by rw[dU,vK]at hj;exact hs j hj.1
theorem h8{w h r p:Nat}(hr:r<2^64)(h0:r≠0)(a:aT w h r (dC r) p):p≠0/\dC p=dC r/\p.testBit (dC r)=true:=by
 obtain⟨h1,h2,_⟩:=dB hr h0;have hp:p.testBit (dC r)=true:=(a _).mpr (.here h1);refine⟨fun z=>by rw[z]at hp;simp at hp,jw (bO hr h1) hp fun j hj=>?_,hp⟩;cases e:p.testBit j with
 |false=>rfl
 |true=>rw[<-h2 j hj,a.sub e]
theorem dI.mem{w h c:Nat}(hw:0<w)(hc:c<2^(w*h))(h64:w*h<=64){r:Nat}{ps:List Nat}(a:dI w h r ps):dJ w h c r->Sub r c->
  (∀p∈ps,∀k,p.testBit k=true->aT w h c k p)/\∀k,r.testBit k=true->∃p∈ps,p.testBit k=true:=by
 induction a with
 |nil=>exact fun _ _=>⟨fun p hp=>by simp at hp,fun k hk=>by simp at hk⟩
 | @cons r p ps z cp _ ih=>
  intro hcl hs;have hr:r<2^64:=uQ (dQ fun j hj=>bO hc (hs j hj)) (vJ (by decide) h64);have cc:=cp.of_closed hcl hs (dB hr z).1;obtain⟨i1,i2⟩:=ih (ie hw hc hcl hs cc) (me hs);refine⟨fun q hq k hk=>?_,fun k hk=>?_⟩
  ·rcases vn.mp hq with rfl|hq
   ·exact cc.at hw hc hk
   ·exact i1 q hq k hk
  ·cases e:p.testBit k with
   |true=>exact⟨p,uN,e⟩
   |false=>obtain⟨q,hq,hk'⟩:=i2 k (by rw[dU,hk,e];rfl);exact⟨q,uL _ hq,hk'⟩
theorem dI.len{w h r:Nat}{ps:List Nat}(a:dI w h r ps):∀{n:Nat},n<=64->r<2^n->ps.length<=n:=by
 suffices hh:∀(m:Nat),(∀j,j<m->r.testBit j=false)->∀{n:Nat},n<=64->r<2^n->ps.length+m<=max n m by intro n hn hr;have:=hh 0 (fun j hj=>by omega) hn hr;omega
 induction a with
 |nil=>intro m _ n _ _;simp;omega
 | @cons r p ps z cp _ ih=>
  intro m hm n hn hr;have hr64:r<2^64:=uQ hr (vJ (by decide) hn);obtain⟨l1,l2,_⟩:=dB hr64 z;have hl:m<=dC r:=by
   rcases wa (dC r) m with q|q
   ·rw[hm _ q]at l1;cases l1
   ·exact q
  have hln:=oR hr hn z;have hp:=(h8 hr64 z cp).2.2
  have:=ih (dC r+1) (fun j hj=>by
   rw[dU];rcases wa j (dC r)with q|q
   ·rw[l2 j q];rfl
   ·have:j=dC r:=by omega
    rw[this,hp,Bool.not_true,Bool.and_false]) hn (lI hr)
  rw[wQ];omega
end LM
namespace My
open PySem L2 LM PyProof.Rows
theorem qP{r p:Nat}(hs:Sub p r):p+dif r p=r:=by
 have e:r&&& p=p:=eT fun j=>by
  rw[wy];cases z:p.testBit j with
  |false=>rw[Bool.and_false]
  |true=>rw[hs j z];rfl
 have h1:p<=r:=by rw[<-e];exact Nat.and_le_left
 unfold dif;rw[e];omega
theorem and_zero{a b:Nat}(h:∀j,a.testBit j=true->b.testBit j=false):a&&& b=0:=eT fun j=>by
 rw[wy,Nat.zero_testBit];cases z:a.testBit j with
 |false=>rfl
 |true=>rw[h j z];rfl
noncomputable abbrev NV(L:List Nat):List V:=L.map fun k:Nat=>V.int (k:Int)
theorem jK(a b:List Nat):NV (a++b)=NV a++NV b:=vW
theorem fV{K:Frag}{H:Hp}:∀(l:List Nat),fQ K H (l.map fun k:Nat=>PyData.int (k:Int)) (NV l)
 | []=>.nil
 |x::l=>.cons (.int x) (fV l)
theorem kq:∀(l:List Nat),PyData.canLayAll0 (l.map fun k:Nat=>PyData.int (k:Int))=true
 | []=>rfl
 |x::l=>by show(PyData.canLay0 (.int x)&&PyData.canLayAll0 (l.map _))=true;rw[kq l];rfl
end My
namespace L2
open PySem PySem.Spec PyProof.Rows
section
variable{X:Cx}{K:Frag}
theorem g8(h:X.K=K):IxR X (tF K):=h▸eO
theorem jA(h:X.K=K):IxR X (tE K):=h▸aS
theorem iC(h:X.K=K):eI X (.type "list") (fun xs H Q=>∃p ys,xs=[.ref p]/\(SqL K H p ys\/SqT K H p ys)/\∀l,H l=none->Q (.ref l) (upd H l (.lst ys))):=h▸jG
theorem ql(h:X.K=K)(hu:X.A.units+64<cLine):OpR X (compareOp .NotEq) (tD K):=h▸gS hu
end
theorem rA{n:Nat}{g:TG}{tt:TT}{te:TE}{σ0:St}{lo:Int}{Q:Hp->Prop}{D:Addr}{H:Hp}(Pv:Nat->List V->Hp->Prop)(h0:Pv 0 [] H)
  (hs:∀i acc H2,i<n->Pv i acc H2->g (.int (lo+i)) σ0 H2 fun σ2 H4=>tt σ2 H4 fun b H5=>if b=true then te σ2 H5 fun y H6=>H6 D=some (.lst acc)/\acc.length<sizeLine/\Pv (i+1) (acc++[y]) (upd H6 D (.lst (acc++[y])))else Pv (i+1) acc H5)
  (hd:∀acc H2,Pv n acc H2->Q H2):
  ∃W:Nat->Nat->List V->Hp->Prop,(∃m,W 0 m [] H)/\∀i m acc H2,W i m acc H2->
   ((Itr lo n).stop i H2/\Q H2)\/((Itr lo n).go i H2/\∃N:List V->Hp->Prop,(∀acc' H',N acc' H'->∃m',m'<m/\W (i+1) m' acc' H')/\∀x H3,(Itr lo n).yld i H2 x H3->g x σ0 H3 fun σ2 H4=>tt σ2 H4 fun b H5=>if b=true then te σ2 H5 fun y H6=>H6 D=some (.lst acc)/\acc.length<sizeLine/\N (acc++[y]) (upd H6 D (.lst (acc++[y])))else N acc H5):=
 hZ (Q:=fun _ H=>Q H) Pv h0 hs hd
theorem mO{K:Frag}{a:Addr}{xs:List V}{g:TG}{tt:TT}{te:TE}{σ0:St}{Q:Hp->Prop}{D:Addr}{H:Hp}(Pv:Nat->List V->Hp->Prop)(h0:Pv 0 [] H)(hl:∀i acc H,i<=xs.length->Pv i acc H->SqL K H a xs)
  (hs:∀i x acc H2,xs[i]?=some x->Pv i acc H2->g x σ0 H2 fun σ2 H4=>tt σ2 H4 fun b H5=>if b=true then te σ2 H5 fun y H6=>H6 D=some (.lst acc)/\acc.length<sizeLine/\Pv (i+1) (acc++[y]) (upd H6 D (.lst (acc++[y])))else Pv (i+1) acc H5)
  (hd:∀acc H2,Pv xs.length acc H2->Q H2):
  ∃W:Nat->Nat->List V->Hp->Prop,(∃m,W 0 m [] H)/\∀i m acc H2,W i m acc H2->
   ((Itl K a).stop i H2/\Q H2)\/((Itl K a).go i H2/\∃N:List V->Hp->Prop,(∀acc' H',N acc' H'->∃m',m'<m/\W (i+1) m' acc' H')/\∀x H3,(Itl K a).yld i H2 x H3->g x σ0 H3 fun σ2 H4=>tt σ2 H4 fun b H5=>if b=true then te σ2 H5 fun y H6=>H6 D=some (.lst acc)/\acc.length<sizeLine/\N (acc++[y]) (upd H6 D (.lst (acc++[y])))else N acc H5):=
 nL (Q:=fun _ H=>Q H) Pv h0 hl hs hd
theorem oZ{P:Program}{w:World}{k:Key}{u:Value}(r:RelV (kV k) u):(ba P w).is k u=true:=by
 cases k with
 |inl i=>obtain⟨t,e⟩:=(show ∃t,u=Value.int i t from r);subst e;exact ki P w i t
 |inr x=>obtain⟨t,e⟩:=(show ∃t,u=Value.str x t from r);subst e;exact kg P w x t
theorem iW{P:Program}{w:World}:∀{ks:List Key}{us:List Value},Vals (ks.map kV) us->ItemsAre (ba P w) ks us
 | [],_,r=>by rw[List.map_nil]at r;cases r;exact .nil
 |k::ks,_,r=>by
  rw[vp]at r;cases r with
  |cons h t=>exact .cons (oZ h) (iW t)
section
variable{X:Cx}{pins:List (Addr×Obj)}{σ:St}{H:Hp}{s:Shared}{a:Addr}{y v:V}{u r:Value}{o:Option V}{A:Around}{E:Value->Shared->Prop}
theorem Inv.big(I:Inv X pins σ H s):sysModules<s.heap.objs.size:=by have h:mainGlobals<s.heap.objs.size:=(I.mod.glob.keeps I.bk).lt;exact Nat.lt_trans (by decide) h
theorem qS{h':Heap}{t':Nat}{ob:HO}(I:Inv X pins σ H s)(mu:Mut (H a))(hs:Heap.SameBut a s.heap h')(he:∃q,h'.get? a=some q)(new:bN X.prog X.w (upd H a ob) h' a ob):
  Inv X pins σ (upd H a ob) {s with heap:=h',toks:=t'}:=
 I.write (x:=a) (e:=a) mu (.inl rfl) (fun b q hb z=>(hs.2 b hb).trans z) he new
end
section
variable{X:Cx}{k:Nat}{f:Addr}{fd:FuncData}{ps:List Str}{sp:Sp}
theorem Inv.track{pins:List (Addr×Obj)}{σ:St}{H:Hp}{s:Shared}{h':Heap}{D:Addr}{ys:List V}{its:List Value}{n t':Nat}(I:Inv X pins σ H s)(fD:f9 X pins H D)(k:∀b o,b≠D->s.heap.get? b=some o->h'.get? b=some o)
  (hv:Vals ys its) (hz:ys.length<=sizeLine) (g:h'.get? D=some {cls:=.type "list",data:=.seq its.toArray n}):Inv X pins σ (upd H D (.lst ys)) {s with heap:=h',toks:=t'}:=by
 obtain⟨f0,f1,f2,f3,f4,f5⟩:=fD;have nD:∀b u,H b=some u->b≠D:=fun b u e z=>by rw[z,f0]at e;cases e
 refine I.step (g':=s.gens) (d':=s.drawn) (ch:=[D]) (fun b hb=>?_) (fun b o _ _ hc e _=>k b o (fun z=>hc (by simp[z])) e) (fun b o _ _ hc e _=>⟨o.slots,k b o (fun z=>hc (by simp[z])) e⟩)
  (fun b o hc _ q=>by rw[ak (fun z=>hc (by simp[z]))];exact q) (fun b o hc e=>⟨o,k b o (fun z=>hc (by simp[z])) e⟩) (fun b xs e=>by rw[ak (nD b _ e)];exact e) (fun b o u e=>by rw[ak (nD b _ e)];exact e)
  (fun b ps e=>⟨#[],by rw[ak (nD b _ e),e];simp⟩) (fun m hm=>?_) (fun b u e=>?_) I.bare
 ·obtain rfl:b=D:=by simpa using hb
  exact⟨f3,f1,f4,f5⟩
 ·obtain⟨o,es,ep,ho,r⟩:=hm;exact⟨o,es,ep,k _ o (Ne.symm f1) ho,r⟩
 ·by_cases hbD:b=D
  ·subst hbD;rw[ab]at e;cases e;exact⟨hz,its,n,hv,g⟩
  ·rw[ak hbD]at e;refine(I.hok b u e).stay (fun c v hc q=>k c v ?_ q) (fun c q=>?_) fun c xs q=>?_
   ·rcases hc with z|z
    ·rw[z];exact hbD
    ·exact nD c _ z
   ·rw[ak (nD c _ q)];exact q
   ·rw[ak (nD c _ q)];exact q
end
end L2
namespace LM
open PyProof.Rows
structure il(w h c k:Nat)(G T:List Nat):Prop where
 nd:G.Nodup
 at_:k∈G
 rc:∀x∈G,Rch w h c k x
 sb:∀x∈T,x∈G
 cl:∀x∈G,¬x∈T->∀i∈bG w h x,c.testBit i=true->i∈G
theorem il.start{w h c k:Nat}(hk:c.testBit k=true):il w h c k [k] [k] where
 nd:=by simp
 at_:=by simp
 rc:=fun x hx=>by rw[uV]at hx;subst hx;exact .here hk
 sb:=fun x hx=>hx
 cl:=fun x hx hn=>absurd hx hn
theorem il.len{w h c k:Nat}{G T:List Nat}(hc:c<2^64)(D:il w h c k G T):G.length<=64:=by have:=length_le_of_subset (l1:=G) (l2:=List.range 64) D.nd fun x hx=>vD.mpr (bO hc (D.rc x hx).in);simpa using this
theorem fT{G:List Nat}{j:Nat}:(cS 0 G).testBit j=true<->j∈G:=by rw[iP];simp
theorem il.done{w h c k:Nat}{G:List Nat}(D:il w h c k G []):aT w h c k (cS 0 G):=fun j=>by
 rw[fT];constructor
 ·exact D.rc j
 ·intro r
  induction r with
  |here _=>exact D.at_
  |step _ hn hc ih=>exact D.cl _ ih (by simp) _ hn hc
structure iE(w h c k x:Nat)(G T:List Nat)(ns:List Nat):Prop where
 nd:G.Nodup
 at_:k∈G
 rc:∀y∈G,Rch w h c k y
 sb:∀y∈T,y∈G
 xG:x∈G
 cl:∀y∈G,¬y∈T->y≠x->∀i∈bG w h y,c.testBit i=true->i∈G
 cx:∀i∈ns,c.testBit i=true->i∈G
theorem il.mid{w h c k x:Nat}{G T:List Nat}(D:il w h c k G (T++[x])):iE w h c k x G T [] where
 nd:=D.nd
 at_:=D.at_
 rc:=D.rc
 sb:=fun y hy=>D.sb y (vq _ hy)
 xG:=D.sb x (by simp)
 cl:=fun y hy hn hne=>D.cl y hy (fun z=>(uR.mp z).elim hn fun z=>hne (uV.mp z))
 cx:=fun i hi=>by simp at hi
theorem iE.push{w h c k x i:Nat}{G T ns:List Nat}(D:iE w h c k x G T ns)(hi:c.testBit i=true)(hn:i∈bG w h x)(hG:¬i∈G):iE w h c k x (G++[i]) (T++[i]) (ns++[i]) where
 nd:=by rw[wx];refine⟨D.nd,by simp,fun a ha b hb e=>?_⟩;rw[uV]at hb;subst hb;subst e;exact hG ha
 at_:=vq _ D.at_
 rc:=fun y hy=>by
  rcases uR.mp hy with z|z
  ·exact D.rc y z
  ·rw[uV]at z;subst z;exact .step (D.rc x D.xG) hn hi
 sb:=fun y hy=>by
  rcases uR.mp hy with z|z
  ·exact vq _ (D.sb y z)
  ·exact vc _ z
 xG:=vq _ D.xG
 cl:=fun y hy hT hne j hj hcj=>by
  rcases uR.mp hy with z|z
  ·exact vq _ (D.cl y z (fun q=>hT (vq _ q)) hne j hj hcj)
  ·exact absurd (vc _ z) hT
 cx:=fun j hj hcj=>by
  rcases uR.mp hj with z|z
  ·exact vq _ (D.cx j z hcj)
  ·exact vc _ z
theorem iE.skip{w h c k x i:Nat}{G T ns:List Nat}(D:iE w h c k x G T ns)(hi:c.testBit i=true->i∈G):iE w h c k x G T (ns++[i]) where
 nd:=D.nd
 at_:=D.at_
 rc:=D.rc
 sb:=D.sb
 xG:=D.xG
 cl:=D.cl
 cx:=fun j hj hcj=>by
  rcases uR.mp hj with z|z
  ·exact D.cx j z hcj
  ·rw[uV]at z;subst z;exact hi hcj
theorem iE.done{w h c k x:Nat}{G T:List Nat}(D:iE w h c k x G T (bG w h x)):il w h c k G T where
 nd:=D.nd
 at_:=D.at_
 rc:=D.rc
 sb:=D.sb
 cl:=fun y hy hT i hi hc=>by
  by_cases e:y=x
  ·subst e;exact D.cx i hi hc
  ·exact D.cl y hy hT e i hi hc
theorem aT.to_closed{w h c r k p:Nat}(hcl:dJ w h c r)(hs:Sub r c)(hk:r.testBit k=true)(a:aT w h c k p):aT w h r k p:=fun j=>by
 rw[a j];constructor
 ·intro x
  induction x with
  |here _=>exact .here hk
  |step _ n e ih=>exact .step ih n (hcl _ _ ih.in n e)
 ·intro x
  induction x with
  |here e=>exact .here (hs _ e)
  |step _ n e ih=>exact .step ih n (hs _ e)
end LM
namespace L2
open PySem PySem.Spec PyProof.Rows
theorem qr{K:Frag}{h:Heap}{mg:Str->Option Value}{x:Str}(X:K.In h)(G:h.Ns mainGlobals mg)(a:nsIn K mainGlobals x=some none):mg x=none:=vy X G a
section
variable{X:Cx}
theorem nO(hc:X.calm=true):eI X (.builtin "sum") (fun xs H Q=>∃(p:Addr)(ns:List Int),xs=[.ref p]/\SqL X.K H p (ns.map V.int)/\Q (.int ns.sum) H):=by
 intro pins s σ H xs us Q I r h;obtain⟨p,ns,rfl,hx,q⟩:=h;obtain⟨u,rfl,ru⟩:=vals1 r;cases ru;obtain⟨vs,rv,pl,hz⟩:=I.list hx;have hi:=intsAre_of rv;obtain⟨ys,e⟩:=hi.allInts.items;have hns:ns=ys.toList.map (·.1):=by rw[<-hi.numsOf,<-nums_intItems,<-e]
 have hl:=pl.isList;rw[e]at hl;refine sum_intListG (I.ok.hd hc) hl fun h' tk t' hk=>?_;refine⟨.int ns.sum,H,I.kept hk,⟨t',?_⟩,q⟩;rw[preSum_eq,List.take_of_length_le (by simp),hns]
end
section
variable{X:Cx}{K:Frag}
theorem qj{es:List Expr}{k:Nat}{t:TGs}{n:Nat}{pos:Pos}(hK:X.K=K)(hc:X.calm=true)(h:PGs X es t)
 (hn:(assignEach es X.env).length=n:=by rfl) (hst:(assignEach es X.env).findIdx? (·.1)=none:=by rfl):PG X (.Tuple es k pos) (qN K n t):=hK▸rO hc h hn hst
theorem p5{n m i j:Nat}(hi:i<n)(hj:j<n)(hij:i≠j):∀x σ H R,σ.length=n+m->(∀(k:Nat),k<n->σ[k]?=some none)->qN K 2 (kA (fh i) (kA (fh j) sD)) x σ H R->
  qN K 2 (kA (fh i) (kA (fh j) sD)) x σ H fun σ2 H2=>Wk σ σ2/\R σ2 H2:=by
 intro x σ H R _ h0 h;obtain⟨a,xs,e,hq,hl,v,r,e1,v2,r2,e2,e3,h⟩:=h;refine⟨a,xs,e,hq,hl,v,r,e1,v2,r2,e2,e3,⟨by simp,fun k w e'=>?_⟩,h⟩;by_cases hk:k=i
 ·subst hk;rw[h0 _ hi]at e';cases e'
 ·by_cases hk2:k=j
  ·subst hk2;rw[h0 _ hj]at e';cases e'
  ·rw[List.getElem?_set_ne (Ne.symm hk2),List.getElem?_set_ne (Ne.symm hk)];exact e'
end
def TK(H H':Hp):Prop:=(∀a xs,H a=some (.tup xs)->H' a=some (.tup xs))/\∀a o xs,H a=some (.frz o (.tup xs))->H' a=some (.frz o (.tup xs))
theorem aq.tk{H H':Hp}(s:aq H H'):TK H H':=⟨fun _ _ e=>s _ _ e,fun _ _ _ e=>s _ _ e⟩
theorem TK.lst{H:Hp}{D:Addr}{xs:List V}{o:HO}(hD:H D=some (.lst xs)):TK H (upd H D o):=
 ⟨fun _ _ e=>by rw[ak (mx e hD (fun z=>nomatch z))];exact e,fun _ _ _ e=>by rw[ak (mx e hD (fun z=>nomatch z))];exact e⟩
theorem TK.sq{K:Frag}{H H':Hp}{a:Addr}{xs:List V}(t:TK H H')(h:SqT K H a xs):SqT K H' a xs:=by
 rcases h with(h|⟨o,h⟩)|h
 ·exact .inl (.inl (t.1 _ _ h))
 ·exact .inl (.inr ⟨o,t.2 _ _ _ h⟩)
 ·exact .inr h
theorem Paired.imp{α β:Type}{R R':α->β->Prop}(h:∀x y,R x y->R' x y){xs:List α}{ys:List β}(hI:Paired R xs ys):Paired R' xs ys:=by
 induction hI with
 |nil=>exact .nil
 |cons a b ih=>exact .cons (h _ _ a) (ih)
theorem aZ{α β:Type}{R:α->β->Prop}:∀{xs:List α}{ys:List β}{i:Nat}{x:α},Paired R xs ys->xs[i]?=some x->∃y,ys[i]?=some y/\R x y
 |_,_,_,_,.nil,e=>by simp at e
 |_,_,0,_,.cons a _,e=>by simp at e;subst e;exact⟨_,rfl,a⟩
 |_,_,i+1,x,.cons _ b,e=>by obtain⟨y,h1,h2⟩:=aZ (i:=i) (x:=x) b (by simpa using e);exact⟨y,by simpa using h1,h2⟩
theorem Paired.app{α β:Type}{R:α->β->Prop}{xs xs':List α}{ys ys':List β}(hI:Paired R xs ys):Paired R xs' ys'->Paired R (xs++xs') (ys++ys'):=by
 induction hI with
 |nil=>exact fun h=>h
 |cons a b ih=>exact fun h=>.cons a (ih h)
end L2
namespace PySem
def gC(h h':Heap)(e:Addr):Prop:=(∀b ob,h.get? b=some ob->h'.get? b=some ob)/\∃oe,h'.get? e=some oe/\oe.cls=.type "AttributeError"
namespace F
theorem gH:isSubtype (.type "AttributeError") (.type "AttributeError")=pure true:=by rw[isSubtype_type];kernel_rfl
end F
theorem iw{M:Model}{A:Around}{E:Value->Shared->Prop}{s:Shared}{α:Type}{v:Value}{name msg:Str}{Q:α->Shared->Prop}(hh:A.handled=none)(hm:msg.length<=sizeLine)
  (h:∀h' tk e,gC s.heap h' e->E (.ref e) {s with heap:=h',toks:=tk}):wpAny M A (raiseAttrError v name msg:Sem α) Q E s:=by
 unfold raiseAttrError;refine uE (wpAny_mkStr (uE ?_) hm);unfold newExc newTuple;refine uE (wpAny_newObj_type ?_ (by size_fits));refine uE (m:=firstArgMember _ _) (wpAny_of_eq (a:=Value.none) (by simp only[firstArgMember];kernel_rfl) ?_);rw[show ∀l,ownMembersOf (.type "AttributeError") l= #[unsetMember,unsetMember]from fun _=>rfl];refine wpAny_newObj_type ?_ (by size_fits);refine uE (wpAny_mkText ?_);unfold noteAttr;refine uE ?_;dsimp only;unfold lacksNameAndObj;dsimp only;refine uE (uE (wpAny_isInstance (T:="AttributeError") (b:=true) ⟨_,vj _ rfl,rfl⟩ F.gH ?_));simp only[Bool.not_true,vF,if_false];refine uE (wpAny_load (vj _ rfl) ?_);show wpAny M A (pure true) _ _ _;refine uG ?_;rw[uM rfl];refine uE (wpAny_rule ?_);refine uE (wpAny_typeOf (T:="AttributeError") ⟨_,vj _ rfl,rfl⟩ ?_);dsimp only;refine wpAny_layMembers (vj _ rfl) rfl ?_;unfold raiseNew;refine uE (wpAny_handled ?_);rw[hh];refine uE (uG (wpAny_throw ?_));refine h _ _ _ ⟨fun b ob hb=>?_,_,Heap.get?_update_self _ (vj _ rfl) (Obj.isFreed_of_fields (Obj.data_mapFields rfl _)),Obj.cls_mapFields _ _⟩;rw[Heap.get?_update_other _ _ (Nat.ne_of_gt (uQ (uU hb) (by simp)))];exact uI _ (uI _ hb)
section
variable{prog:Program}{w:World}{K:Type}[DecidableEq K]{knd:KeyKind prog w K}{A:Around}{E:Value->Shared->Prop}{s:Shared}
namespace F
theorem bF:plainId "dict.update.loop"=true:=by decide+kernel
theorem dh:entryFor table "dict.update.loop"=some Builtin.«dict.update.loop»:=entryFor_of_fast (by kernel_rfl)
end F
end
end PySem
namespace L2
open PySem PySem.Spec PyProof.Rows
section
variable{X:Cx}
def uw(K:Frag):List V->Hp->VK->Prop:=fun xs H Q=>∃(x c:V)(a:Addr)(ys:List V)(b:Bool)(cv:Value),xs=[x,c]/\x=.ref a/\SqT K H a ys/\RelV c cv/\(∀u,RelV c u->u=cv)/\kitOne K (.type "tuple") cv=some b/\Q (.bl b) H
theorem pJ:eI X (.builtin "isinstance") (uw X.K):=by intro pins s σ H xs us Q I r h;obtain⟨x,c,a,ys,b,cv,rfl,rfl,hx,rc,uc,e,q⟩:=h;obtain⟨u1,u2,rfl,r1,r2⟩:=vals2 r;cases r1;obtain rfl:=uc u2 r2;obtain⟨its,rv,⟨o,h1,h2,_⟩,hz⟩:=I.tuple hx;exact vZ PySem.W.kitx_tuple I.kIn ⟨o,h1,h2⟩ e (fun z=>nomatch z) fun tk=>⟨.bl b,H,I.tok _,rfl,q⟩
end
noncomputable def cI:Key->PyData
 | .inl i=>.int i
 | .inr x=>.str x
noncomputable def dv(ks:List Key):PyData:=.tuple (ks.map cI)
noncomputable def lK(c:List (List Key)):PyData:=.tuple (c.map dv)
noncomputable def qG:Key->Bool
 | .inl _=>true
 | .inr x=>PyData.canLay0 (.str x)
theorem qK(a b:Key):PyData.eqv (cI a) (cI b)=decide (a=b):=by
 cases a with
 |inl i=>
  cases b with
  |inl j=>
   show(i==j)=_;by_cases h:i=j
   ·subst h;simp
   ·simp[h]
  |inr y=>rfl
 |inr x=>
  cases b with
  |inl j=>rfl
  |inr y=>
   show(x==y)=_;by_cases h:x=y
   ·subst h;simp
   ·simp[h]
theorem jk:∀(a b:List Key),PyData.eqvAll (a.map cI) (b.map cI)=decide (a=b)
 | [],[]=>rfl
 | [],_::_=>rfl
 |_::_,[]=>rfl
 |x::a,y::b=>by
  show(PyData.eqv (cI x) (cI y)&&PyData.eqvAll (a.map cI) (b.map cI))=_;rw[qK,jk a b];by_cases h1:x=y
  ·by_cases h2:a=b
   ·simp[h1,h2]
   ·simp[h1,h2]
  ·simp[h1]
theorem ib:∀(a b:List (List Key)),PyData.eqvAll (a.map dv) (b.map dv)=decide (a=b)
 | [],[]=>rfl
 | [],_::_=>rfl
 |_::_,[]=>rfl
 |x::a,y::b=>by
  show(PyData.eqvAll (x.map cI) (y.map cI)&&PyData.eqvAll (a.map dv) (b.map dv))=_;rw[jk,ib a b];by_cases h1:x=y
  ·by_cases h2:a=b
   ·simp[h1,h2]
   ·simp[h1,h2]
  ·simp[h1]
theorem mP(a b:List (List Key)):PyData.eqv (lK a) (lK b)=decide (a=b):=ib a b
theorem mE:∀(r:List Key),(∀k∈r,qG k=true)->PyData.canLayAll0 (r.map cI)=true
 | [],_=>rfl
 |k::r,h=>by
  have h1:PyData.canLay0 (cI k)=true:=by
   have:=h k (uN ..);cases k with
   |inl i=>rfl
   |inr x=>exact this
  show(PyData.canLay0 (cI k)&&PyData.canLayAll0 (r.map cI))=true;rw[h1,mE r fun x hx=>h x (uL _ hx)];rfl
theorem jy:∀(c:List (List Key)),(∀r∈c,∀k∈r,qG k=true)->PyData.canLayAll0 (c.map dv)=true
 | [],_=>rfl
 |r::c,h=>by show(PyData.canLayAll0 (r.map cI)&&PyData.canLayAll0 (c.map dv))=true;rw[mE r (h r (uN ..)),jy c fun x hx=>h x (uL _ hx)];rfl
theorem mI:∀(r:List Key),PyData.depthAll (r.map cI)=0
 | []=>rfl
 |k::r=>by show max (cI k).depth (PyData.depthAll (r.map cI))=0;rw[mI r];cases k<;>rfl
theorem kF:∀(c:List (List Key)),PyData.depthAll (c.map dv)<=1
 | []=>by show(0:Nat)<=1;decide
 |r::c=>by
  have h:=kF c;have h2:(dv r).depth<=1:=by show PyData.depthAll (r.map cI)+1<=1;rw[mI];decide
  show max _ _<=1;exact Nat.max_le.mpr ⟨h2,h⟩
theorem qR(c:List (List Key)):(lK c).depth<=2:=by have:=kF c;show PyData.depthAll (c.map dv)+1<=2;omega
section
variable{P:Program}{w:World}
inductive aX(P:Program)(w:World)(h:Heap):List (List Key)->List Value->Prop
 |nil:aX P w h [] []
 |cons {k:List Key} {a:Addr} {ks:List (List Key)} {vs:List Value}:IsTupleKey (ba P w) h k a->aX P w h ks vs->aX P w h (k::ks) (.ref a::vs)
def bI(P:Program)(w:World)(h:Heap)(c:List (List Key))(a:Addr):Prop:=
 (∀r∈c,∀k∈r,qG k=true)/\∃ob its n,h.get? a=some ob/\ob.cls=.type "tuple"/\ob.data=.seq its n/\aX P w h c its.toList
theorem aX.one{h:Heap}{x y:List (List Key)}{us:List Value}(p:aX P w h x us)(q:aX P w h y us):x=y:=by
 induction p generalizing y with
 |nil=>cases q;rfl
 |cons p1 _ ih=>
  cases q with
  |cons q1 q2=>rw[p1.inj q1,ih q2]
theorem bI.one{h:Heap}{x y:List (List Key)}{a:Addr}(p:bI P w h x a)(q:bI P w h y a):x=y:=by obtain⟨_,ob,its,n,p1,_,p3,p4⟩:=p;obtain⟨_,ob',its',n',q1,_,q3,q4⟩:=q;rw[p1]at q1;cases q1;rw[p3]at q3;injection q3 with e _;subst e;exact p4.one q4
theorem aX.stay{h h':Heap}{c:List (List Key)}{us:List Value}{d:Addr}{o:Obj}{es:Array DictEntry}{ep:Nat}(p:aX P w h c us)(ho:h.get? d=some o)(hd:o.data=.dict es ep)(hs:Heap.SameBut d h h'):aX P w h' c us:=by
 induction p with
 |nil=>exact .nil
 |cons p1 _ ih=>exact .cons (p1.keeps ho hd hs) ih
theorem bI.stay{h h':Heap}{c:List (List Key)}{a d:Addr}{o:Obj}{es:Array DictEntry}{ep:Nat}(p:bI P w h c a)(ho:h.get? d=some o)(hd:o.data=.dict es ep)(hs:Heap.SameBut d h h'):bI P w h' c a:=by
 obtain⟨l,ob,its,n,p1,p2,p3,p4⟩:=p;have ne:a≠d:=fun z=>by rw[z,ho]at p1;cases p1;rw[hd]at p3;cases p3
 exact⟨l,ob,its,n,(hs.2 a ne).trans p1,p2,p3,p4.stay ho hd hs⟩
theorem bI.tyIs{s:Shared}{c:List (List Key)}{a:Addr}(p:bI P w s.heap c a):s.TypeIs (.ref a) "tuple":=by obtain⟨_,ob,_,_,p1,p2,_⟩:=p;exact⟨ob,p1,p2⟩
theorem iu{h:Heap}{ks:List Key}{us:List Value}(hI:ItemsAre (ba P w) ks us):∃as,ReadsAll h us (ks.map cI) as:=by
 induction hI with
 |nil=>exact⟨_,.nil⟩
 |cons p1 p2 ih=>
  obtain⟨as,r⟩:=ih;rcases aW p1 with⟨i,t,rfl,rfl⟩|⟨x,t,rfl,rfl⟩
  ·exact⟨_,.cons (.int i t) r⟩
  ·exact⟨_,.cons (.str x t) r⟩
theorem kS{h:Heap}{c:List (List Key)}{us:List Value}(hI:aX P w h c us):∃as,ReadsAll h us (c.map dv) as:=by
 induction hI with
 |nil=>exact⟨_,.nil⟩
 |cons p1 p2 ih=>obtain⟨as,r⟩:=ih;obtain⟨ob,its,n,q1,q2,q3,q4⟩:=p1;obtain⟨bs,r2⟩:=iu (h:=h) q4;exact⟨_,.cons (.tuple q1 q2 q3 r2) r⟩
theorem bI.reads{h:Heap}{c:List (List Key)}{a:Addr}(p:bI P w h c a):∃as,Reads h (.ref a) (lK c) as:=by obtain⟨_,ob,its,n,p1,p2,p3,p4⟩:=p;obtain⟨as,r⟩:=kS p4;exact⟨_,.tuple p1 p2 p3 r⟩
noncomputable def jF(P:Program)(w:World)(c:List (List Key)):Int:=reduceHash (Builtin.Tuple.tupleHashOf (c.map (tupleKeyHash (ba P w))))
noncomputable def dE(c:List (List Key)):Nat:=(c.map fun r=>r.length+1).sum
variable{A:Around}{E:Value->Shared->Prop}{s:Shared}
theorem pI{c:List (List Key)}{a:Addr}{Q:Int->Shared->Prop}(room:A.units+3<cLine)(p:bI P w s.heap c a)(q:Q (jF P w c) {s with toks:=s.toks+(dE c+1)}):
  wpAny (model P w) A (pyHash (.ref a)) Q E s:=by
 have ty:=p.tyIs;obtain⟨_,ob,its,n,p1,_,p3,p4⟩:=p;unfold pyHash
 first|unfold pyHashByItsType|skip
 first|refine uE (wpAny_cRoomFor_or (.inr (by omega)) ?_)|skip
 refine uE (wpAny_specialOf ty F.slot_tuple_hash.lookup ?_);show wpAny _ _ (if(some (Value.builtin "tuple.__hash__")==some Value.none)=true then _ else _) Q E s;rw[uK (by rw[beq_builtin_none];exact uT)];refine uE (wpAny_specialOf ty F.slot_tuple_hash.lookup ?_);show wpAny _ _ (callSpecialIfBoundUnlessNone? (.ref a) "__hash__" _>>= _) Q E s;refine uE (wpAny_callSpecialIfBoundUnlessNone?_slot ty F.slot_tuple_hash (wpAny_call_entry F.slot_tuple_hash ty F.entry_tuple_hash ?_ (F.args_tuple_hash_1 _)));show wpAny _ _ (Builtin.Tuple.tupleItemsOf (.ref a)>>= _) _ _ s;refine uE (wpAny_tupleItemsOf p1 p3 (uE ?_));rw[<-Array.forIn_toList];refine wpAny_forIn_list _ (fun left (acc:Array Int) s'=>∃c1 c2,c=c1++c2/\aX P w s.heap c2 left/\acc.toList=c1.map (tupleKeyHash (ba P w))/\s'={s with toks:=s.toks+dE c1}) _ ?_ ?_ _ _ ⟨[],c,rfl,p4,rfl,rfl⟩
 ·rintro u left acc s' ⟨c1,c2,rfl,r,e,rfl⟩;cases r with
  | @cons k b ks vs r1 r2=>
   refine uE (wpAny_pyHash_tuple (ks:=k) (by simp only[Around.in1_units];omega) r1 ?_);have fin:∃d1 d2,c1++k::ks=d1++d2/\aX P w s.heap d2 left/\(acc.push (tupleKeyHash (ba P w) k)).toList=d1.map (tupleKeyHash (ba P w))/\({s with toks:=s.toks+dE c1+(k.length+1)}:Shared)={s with toks:=s.toks+dE d1}:=
    ⟨c1++[k],ks,by simp,r2,by simp[e],by simp[dE,Nat.add_assoc]⟩
   first
    |exact uG fin
    |exact uE (uG (uG fin))
 ·rintro acc s' ⟨c1,c2,rfl,r,e,rfl⟩;cases r;rw[vG]at q;show wpAny _ _ (retInt (Builtin.Tuple.tupleHashOf acc.toList)) _ _ _;rw[e];refine wpAny_ret_mkInt ?_;unfold jF reduceHash at q;generalize Builtin.Tuple.tupleHashOf (c1.map (tupleKeyHash (ba P w)))=z at q ⊢;show wpAny _ _ (if(decide (-(2:Int)^63<=z)&&decide (z<2^63))=true then _ else _) Q E _;by_cases hz:(decide (-(2:Int)^63<=z)&&decide (z<2^63))=true
  ·rw[uM hz]at q ⊢;exact uG (by simpa[Nat.add_assoc]using q)
  ·rw[uK hz]at q ⊢;exact uE (wpAny_rule (uG (by simpa[Nat.add_assoc]using q)))
theorem sJ{x y:List (List Key)}{a b:Addr}{Q:Bool->Shared->Prop}(room:A.units+3<cLine)(p:bI P w s.heap x a)(q:bI P w s.heap y b)(h:Q (decide (x=y)) s):wpAny (model P w) A (eqBool (.ref a) (.ref b)) Q E s:=by obtain⟨as,ra⟩:=p.reads;obtain⟨bs,rb⟩:=q.reads;have dx:=qR x;have dm:=Nat.min_le_left (lK x).depth (lK y).depth;rw[<-mP]at h;exact SeqAt.eqAt_reads _ _ A s _ _ _ _ ra rb (jy x p.1) (jy y q.1) (by omega) P w E Q h
end
section
variable{P:Program}{w:World}{A:Around}{E:Value->Shared->Prop}{s:Shared}
theorem m9{k:List Key}{a:Addr}(m:Nat){Q:Bool->Shared->Prop}(p:IsTupleKey (ba P w) s.heap k a)(q:Q true s):wpAny (model P w) A (eqIsQuiet (m+1) (.ref a)) Q E s:=by
 have ty:=p.typeIs;obtain⟨ob,its,n,p1,_,p3,p4⟩:=p;unfold eqIsQuiet;refine uE (wpAny_specialOf ty F.slot_tuple_eq.lookup ?_);show wpAny _ _ (isInstance (.ref a) (.type "tuple")>>= _) _ _ s;refine uE (wpAny_isInstance ty isSubtype_tuple_tuple ?_);simp only[Bool.not_true,vF,if_false];refine uE (wpAny_seqItems p1 p3 (uE ?_));show wpAny _ _ (forIn its _ _) _ _ s;rw[<-Array.forIn_toList];refine wpAny_forIn_list _ (fun left r s'=>r.1=none/\s'=s/\∀v∈left,carriedByValue v=true) _ ?_ ?_ _ _ ⟨rfl,rfl,p4.byValue⟩
 ·rintro u left r s' ⟨hr,rfl,all⟩;rw[eqIsQuiet_byValue m (all u uN)];refine uE (uG ?_);simp only[Bool.not_true,vF,if_false];exact uG ⟨rfl,rfl,fun z hz=>all z (uL _ hz)⟩
 ·rintro⟨r1,r2⟩ s' ⟨hr,rfl,_⟩;simp only at hr;subst hr;exact uG q
theorem nM{c:List (List Key)}{a:Addr}{Q:Bool->Shared->Prop}(p:bI P w s.heap c a)(q:Q true s):wpAny (model P w) A (eqIsQuiet 8 (.ref a)) Q E s:=by
 have ty:=p.tyIs;obtain⟨_,ob,its,n,p1,_,p3,p4⟩:=p;unfold eqIsQuiet;refine uE (wpAny_specialOf ty F.slot_tuple_eq.lookup ?_);show wpAny _ _ (isInstance (.ref a) (.type "tuple")>>= _) _ _ s;refine uE (wpAny_isInstance ty isSubtype_tuple_tuple ?_);simp only[Bool.not_true,vF,if_false];refine uE (wpAny_seqItems p1 p3 (uE ?_));show wpAny _ _ (forIn its _ _) _ _ s;rw[<-Array.forIn_toList];refine wpAny_forIn_list _ (fun left r s'=>r.1=none/\s'=s/\∃c2,aX P w s.heap c2 left) _ ?_ ?_ _ _ ⟨rfl,rfl,c,p4⟩
 ·rintro u left r s' ⟨hr,rfl,c2,r2⟩;cases r2 with
  |cons r3 r4=>refine uE (m9 6 r3 ?_);simp only[Bool.not_true,vF,if_false];exact uG ⟨rfl,rfl,_,r4⟩
 ·rintro⟨r1,r2⟩ s' ⟨hr,rfl,_⟩;simp only at hr;subst hr;exact uG q
end
noncomputable def bS(P:Program)(w:World):HeapKind P w (List (List Key)) where
 is:=bI P w
 hash:=jF P w
 draws:=fun c=>dE c+1
 room:=fun A=>A.units+3<cLine
 inj:=fun p q=>p.one q
 keeps:=fun p ho hd hs=>p.stay ho hd hs
 pyHash:=fun hu p q=>pI hu p q
 eqBool:=fun hu p q h=>sJ hu p q h
 quiet:=fun p q=>nM p q
noncomputable abbrev Col:=List (List Key)
noncomputable abbrev CT:=List (Col×Addr×V)
noncomputable def b8(a:Addr)(o:Obj):HO:=.ext fun h=>h.get? a=some o
theorem jv{P:Program}{w:World}{H:Hp}{h:Heap}{a:Addr}{o:Obj}(e:h.get? a=some o):bN P w H h a (b8 a o):=⟨e,⟨o,e⟩,fun _ _ e1 k=>k o e1⟩
noncomputable def cW:Obj:={cls:=.type "dict",data:=.dict #[]}
def CTv:CT->List (Col×Addr×Value)->Prop:=Paired fun(t:Col×Addr×V) (v:Col×Addr×Value)=>t.1=v.1/\t.2.1=v.2.1/\RelV t.2.2 v.2.2
structure jO(P:Program)(w:World)(o:Obj)(T:CT):Prop where
 ex:o.ExactDict
 len:T.length<=sizeLine
 es:∃es ep vs,o.data=.dict es ep/\es.toList=vs.map (entryOfKey (bS P w))/\CTv T vs/\(vs.map (·.1)).Nodup
theorem ic(P:Program)(w:World):jO P w cW []:=⟨⟨rfl,rfl,rfl⟩,vN _,#[],0,[],rfl,rfl,.nil,List.nodup_nil⟩
def d8(K:Frag)(H:Hp)(b:Addr)(c:Col):Prop:=(∀r∈c,∀k∈r,qG k=true)/\∃xs,SqT K H b xs/\Paired (fun(v:V) (r:List Key)=>∃a,v=.ref a/\SqT K H a (r.map kV)) xs c
theorem d8.tk{K:Frag}{H H':Hp}{b:Addr}{c:Col}(t:TK H H')(h:d8 K H b c):d8 K H' b c:=by obtain⟨l,xs,h1,h2⟩:=h;exact⟨l,xs,t.sq h1,Paired.imp (fun _ _ ⟨a,e,z⟩=>⟨a,e,t.sq z⟩) h2⟩
theorem TK.obj{H:Hp}{D:Addr}{ob:Obj}{o:HO}(hD:H D=some (b8 D ob)):TK H (upd H D o):=
 ⟨fun _ _ e=>by rw[ak (mx e hD (fun z=>nomatch z))];exact e,fun _ _ _ e=>by rw[ak (mx e hD (fun z=>nomatch z))];exact e⟩
noncomputable def atT(T:CT)(c:Col):Option V:=(T.find? fun t=>decide (t.1=c)).map (·.2.2)
noncomputable def cY(T:CT)(c:Col)(b:Addr)(v:V):CT:=if(T.any fun t=>decide (t.1=c))=true then T.map (fun t=>if t.1=c then(t.1,t.2.1,v)else t)else T++[(c,b,v)]
section
variable{X:Cx}{pins:List (Addr×Obj)}{σ:St}{H:Hp}{s:Shared}
theorem d8.is{b:Addr}{c:Col}(I:Inv X pins σ H s)(h:d8 X.K H b c):bI X.prog X.w s.heap c b:=by
 obtain⟨l,xs,h1,h2⟩:=h;obtain⟨its,rv,⟨ob,e1,e2,n,e3⟩,_⟩:=I.tuple h1;refine⟨l,ob,its.toArray,n,e1,e2,e3,?_⟩;have key:∀{xs:List V}{its:List Value}{c:Col},Vals xs its->Paired (fun(v:V) (r:List Key)=>∃a,v=.ref a/\SqT X.K H a (r.map kV)) xs c->aX X.prog X.w s.heap c its:=by
  intro xs its c rv pr
  induction pr generalizing its with
  |nil=>cases rv;exact .nil
  |cons p1 _ ih=>
   obtain⟨a,rfl,ha⟩:=p1;cases rv with
   |cons r1 r2=>cases r1;obtain⟨its2,rv2,⟨ob2,f1,f2,n2,f3⟩,_⟩:=I.tuple ha;exact .cons ⟨ob2,its2.toArray,n2,f1,f2,f3,by simpa using iW rv2⟩ (ih r2)
 simpa using key rv h2
theorem qU{T:CT}{vs:List (Col×Addr×Value)}(hI:CTv T vs):∀v∈vs,∃t∈T,t.1=v.1/\t.2.1=v.2.1:=by
 induction hI with
 |nil=>exact fun v hv=>by cases hv
 |cons a b ih=>
  intro v hv;rcases vn.mp hv with e|e
  ·subst e;exact⟨_,uN ..,a.1,a.2.1⟩
  ·obtain⟨t,ht,h⟩:=ih v e;exact⟨t,uL _ ht,h⟩
theorem jO.dict{d:Addr}{o:Obj}{T:CT}(I:Inv X pins σ H s)(hd:H d=some (b8 d o))(ho:jO X.prog X.w o T)(hk:∀t∈T,d8 X.K H t.2.1 t.1):∃vs,CTv T vs/\s.heap.DictOfH (bS X.prog X.w) d vs:=by obtain⟨es,ep,vs,h1,h2,h3,h4⟩:=ho.es;have e:s.heap.get? d=some o:=(I.hok d _ hd).1;refine⟨vs,h3,o,es,ep,e,ho.ex,h1,h2,fun v hv=>?_,h4⟩;obtain⟨t,ht,e1,e2⟩:=qU h3 v hv;rw[<-e1,<-e2];exact(hk t ht).is I
theorem hJ{T:CT}{vs:List (Col×Addr×Value)}(h:CTv T vs):T.length=vs.length:=vx h
theorem rz{c:Col}{T:CT}{vs:List (Col×Addr×Value)}(hI:CTv T vs):(atT T c=none/\atKey vs c=none)\/∃v p,atT T c=some v/\atKey vs c=some p/\RelV v p.2:=by
 induction hI with
 |nil=>exact .inl ⟨rfl,rfl⟩
 | @cons t u _ _ a b ih=>
  by_cases h:t.1=c
  ·have h':u.1=c:=a.1.symm.trans h;refine .inr ⟨t.2.2,u.2,?_,?_,a.2.2⟩
   ·simp[atT,List.find?_cons,h]
   ·simp[atKey,List.find?_cons,h']
  ·have h':¬u.1=c:=fun z=>h (a.1.trans z);have ih:=ih;simpa[atT,atKey,List.find?_cons,h,h']using ih
theorem sI{c:Col}{T:CT}{vs:List (Col×Addr×Value)}(hI:CTv T vs):(T.any fun t=>decide (t.1=c))=(atKey vs c).isSome:=by
 induction hI with
 |nil=>exact rfl
 | @cons t u _ _ a b ih=>
  have ih:=ih;rw[List.any_cons,ih];by_cases h:t.1=c
  ·have h':u.1=c:=a.1.symm.trans h;simp[atKey,List.find?_cons,h,h']
  ·have h':¬u.1=c:=fun z=>h (a.1.trans z);simp[atKey,List.find?_cons,h,h']
theorem sG{c:Col}{v:V}{u:Value}(r:RelV v u){T:CT}{vs:List (Col×Addr×Value)}(hI:CTv T vs):CTv (T.map fun t=>if t.1=c then(t.1,t.2.1,v)else t) (vs.map (putAt c u)):=by
 induction hI with
 |nil=>exact .nil
 | @cons t q _ _ a b ih=>
  rw[vp,vp];refine .cons ?_ (ih);unfold putAt;by_cases h:t.1=c
  ·rw[uM h,uM (a.1.symm.trans h)];exact⟨a.1,a.2.1,r⟩
  ·rw[uK h,uK (fun z=>h (a.1.trans z))];exact a
theorem pG{c:Col}{b:Addr}{v:V}{u:Value}(r:RelV v u){T:CT}{vs:List (Col×Addr×Value)}(h:CTv T vs):CTv (cY T c b v) (storedH vs c b u):=by
 unfold cY storedH;rw[sI h];split
 ·exact sG r h
 ·exact Paired.app h (.cons ⟨rfl,rfl,r⟩ .nil)
theorem jY(T:CT)(c:Col)(b:Addr)(v:V):(cY T c b v).length<=T.length+1:=by
 unfold cY;split
 ·rw[uF];omega
 ·rw[uO];simp
end
def rC:TE:=fun _ H Q=>∀p,H p=none->(p==sysModules)=false->Q (.ref p) (upd H p (b8 p cW))
def cb(P:Program)(w:World)(K:Frag)(H:Hp)(d:Addr)(o:Obj)(T:CT):Prop:=H d=some (b8 d o)/\jO P w o T/\(d==sysModules)=false/\∀t∈T,d8 K H t.2.1 t.1
def tu(P:Program)(w:World)(K:Frag)(td ty tv:TE):TS:=fun D σ H=>tv σ H fun v H1=>td σ H1 fun x H2=>ty σ H2 fun y H3=>∃d o T b c,x=.ref d/\cb P w K H3 d o T/\y=.ref b/\d8 K H3 b c/\T.length<1000/\∀o',jO P w o' (cY T c b v)->D.nx σ (upd H3 d (b8 d o'))
section
variable{X:Cx}{o i e f value:Expr}{td ty tv tx:TE}{pos pos' apos cpos:Pos}
theorem j5:PE X (.Dict [] [] pos) rC:=fun pins s σ H Q I h=>wpAny_Dict_empty ⟨.ref s.heap.objs.size,_,I.laid (a:=s.heap.objs.size) (o:=b8 s.heap.objs.size cW) (t':=s.toks) (fun _ _ q=>uI _ q) (uW _) (jv (vj _ rfl)),rfl,h _ (I.hok.fresh (uW _)) (beq_eq_false_iff_ne.mpr (Ne.symm (vv I.big)))⟩
theorem mq(hu:X.A.units+64<cLine)(ho:PE X o td)(hi:PE X i ty)(hv:PE X value tv)(hs:swapsWith value (some (.Subscript o i pos')) pos.line X.env=pure false):
  PS X (.Assign [.Subscript o i pos'] value pos) (tu X.prog X.w X.K td ty tv):=by
 intro pins s σ H D I h;refine wpAny_Assign_Subscript (thn (hv pins s σ H _ I h) fun r s1 hPz=>L2.ep3 hPz fun v H1 I1 rv q1=>thn (ho pins s1 σ H1 _ I1 q1) fun u s2 hPz=>L2.ep3 hPz fun x H2 I2 rx q2=>thn (hi pins s2 σ H2 _ I2 q2) fun iv s3 hPz=>?_) hs;obtain⟨y,H3,I3,ry,d,ob,T,b,c,ex,hc,ey,hb,hl,q3⟩:=hPz;subst ex ey;cases rx;cases ry;obtain⟨h1,h2,h3,h4⟩:=hc;obtain⟨vs,rT,DD⟩:=h2.dict I3 h1 h4;have lt:=hJ rT;have sl:(1000:Nat)<=sizeLine:=by decide
 refine wpAny_setItem_heap (hsz:=by omega) (show X.A.in1.units+3<cLine by simp only[Around.in1_units];omega) (hb.is I3) DD fun h' DD' hs'=>?_;obtain⟨ob',es',ep',e1,e2,e3,e4,_,e6⟩:=DD';have ho':jO X.prog X.w ob' (cY T c b v):=⟨e2,by have:=jY T c b v;omega,es',ep',_,e3,e4,pG rv rT,e6⟩;exact⟨σ,_,qS I3 (by rw[h1];exact True.intro) hs' ⟨ob',e1⟩ (jv e1),q3 ob' ho'⟩
end
section
variable{P:Program}{w:World}{A:Around}{E:Value->Shared->Prop}{s:Shared}{it d:Addr}{i ep:Nat}{od:Obj}{es:Array DictEntry}
theorem lE{Q:Value->Shared->Prop}(nm:(d==sysModules)=false)(g:s.heap.get? d=some od)(x:od.ExactDict)(gd:od.data=.dict es ep)
  (q:Q (.ref s.heap.objs.size) {s with heap:=s.heap.push {cls:=.type "dict_keyiterator",data:=.fields #[.ref d,.int 0 0,.int es.size 0,.int ep 0]}}):wpAny (model P w) A (pyIter (.ref d)) Q E s:=by
 have ty:s.TypeIs (.ref d) "dict":=⟨od,g,x.1⟩;refine wpAny_pyIter_slot ty F.slot_dict_iter (wpAny_call_entry F.slot_dict_iter ty F.entry_dict_iter ?_ (F.args_dict_iter_1 _));unfold Builtin.«dict.__iter__» Builtin.Dict.dictSlotNone;refine uE (uE (wpAny_notOrdered_dict ty ?_));refine uG ?_;refine uE (show wpAny (model P w) A.in1 (pure d) _ _ _ from uG ?_);unfold Builtin.Dict.showsAll;rw[uK (by rw[nm];exact uT)];refine uE (uG (uE (wpAny_dictEntries g gd (uE (wpAny_dictEpoch g gd ?_)))));refine uE (wpAny_newObj_type (uG ⟨_,rfl,"dict_keyiterator",_,⟨_,vj _ rfl,rfl⟩,wD.lookup,?_⟩));simpa[rawInt]using q
theorem nF{Q:Option Value->Shared->Prop}{en:DictEntry}(hit:s.heap.IsKeyIter it d i es.size ep)(g:s.heap.get? d=some od)(gd:od.data=.dict es ep)(hx:es[i]?=some en)
  (q:∀h',h'.IsKeyIter it d (i+1) es.size ep->Heap.SameBut it s.heap h'->Q (some en.key) {s with heap:=h'}):wpAny (model P w) A (pyNext (.ref it)) Q E s:=by
 obtain⟨oi,gi,ci,di⟩:=id hit;unfold pyNext;refine uE (wpAny_attempt (wpAny_callSpecial?_slot (name:=Str.ofString "__next__") hit.typeIs wD (wpAny_call_entry wD hit.typeIs F.entry_dict_keyiterator_next ?_ (F.args_dict_keyiterator_next_1 _))));refine uE (uG (uE (uE ?_)))
 first|refine uE (wpAny_typeNameOfWhole_keyiter hit.typeIs (uG ?_))|refine uE (wpAny_typeNameOf_keyiter hit.typeIs (uG ?_))
 refine uE (wpAny_fieldsOf gi di ?_);have nown:Builtin.Dict_items.ownsTuple "dict_keyiterator"=false:=by decide
 simp only[nown,vF,if_false];show wpAny _ _ (if(Value.ref d==Value.none)=true then _ else _) _ _ s;rw[uK (show ¬((Value.ref d==Value.none)=true)from uT)];refine uE (uG (uE (wpAny_dictEntries g gd ?_)));rw[uK (by simp)];refine uE (uG (uE (wpAny_dictEpoch g gd ?_)));rw[uK (by simp)];refine uG ?_;simp only[show ¬((i:Int)<0)from by omega,if_false,vE,hx];refine uE ?_
 first|refine uE (wpAny_typeNameOfWhole_keyiter hit.typeIs (uG ?_))|refine uE (wpAny_typeNameOf_keyiter hit.typeIs (uG ?_))
 refine uE (wpAny_isOneOf_keyiter hit.typeIs ?_);show wpAny _ _ (setField (.ref it) 1 (rawInt ((i:Int)+1))>>= _) _ _ s;refine uE (wpAny_setField gi di (by simp) ?_);have nx:(s.heap.update it (Obj.mapFields (·.setIfInBounds 1 (rawInt ((i:Int)+1))))).IsKeyIter it d (i+1) es.size ep:=
  ⟨_,Heap.get?_update_self _ gi (Obj.isFreed_of_fields (Obj.data_mapFields di _)),(Obj.cls_mapFields ..).trans ci,by rw[Obj.data_mapFields di];simp[rawInt]⟩
 refine uE (wpAny_holding (uE (wpAny_isOneOf_keyiter (s:={s with heap:=s.heap.update it (Obj.mapFields (·.setIfInBounds 1 (rawInt ((i:Int)+1))))}) nx.typeIs ?_)));show wpAny _ _ (pure en.key) _ _ _;exact uG (uG ⟨_,rfl,uG (q _ nx (Heap.SameBut.update ..))⟩)
theorem oY{Q:Option Value->Shared->Prop}(hh:A.handled=none)(hit:s.heap.IsKeyIter it d i es.size ep)(g:s.heap.get? d=some od)(gd:od.data=.dict es ep)(hx:es.size<=i)
  (q:∀h',Heap.ExtBut it s.heap h'->Q none {s with heap:=h'}):wpAny (model P w) A (pyNext (.ref it)) Q E s:=by
 obtain⟨oi,gi,ci,di⟩:=id hit;unfold pyNext;refine uE (wpAny_attempt (wpAny_callSpecial?_slot (name:=Str.ofString "__next__") hit.typeIs wD (wpAny_call_entry wD hit.typeIs F.entry_dict_keyiterator_next ?_ (F.args_dict_keyiterator_next_1 _))));refine uE (uG (uE (uE ?_)))
 first|refine uE (wpAny_typeNameOfWhole_keyiter hit.typeIs (uG ?_))|refine uE (wpAny_typeNameOf_keyiter hit.typeIs (uG ?_))
 refine uE (wpAny_fieldsOf gi di ?_);have nown:Builtin.Dict_items.ownsTuple "dict_keyiterator"=false:=by decide
 simp only[nown,vF,if_false];show wpAny _ _ (if(Value.ref d==Value.none)=true then _ else _) _ _ s;rw[uK (show ¬((Value.ref d==Value.none)=true)from uT)];refine uE (uG (uE (wpAny_dictEntries g gd ?_)));rw[uK (by simp)];refine uE (uG (uE (wpAny_dictEpoch g gd ?_)));rw[uK (by simp)];refine uG ?_;simp only[show ¬((i:Int)<0)from by omega,if_false,vE,Array.getElem?_eq_none hx];refine uE ?_
 first|refine uE (wpAny_typeNameOfWhole_keyiter hit.typeIs (uG ?_))|refine uE (wpAny_typeNameOf_keyiter hit.typeIs (uG ?_))
 show wpAny _ _ (setField (.ref it) 0 .none>>= _) _ _ s;refine uE (wpAny_setField gi di (by simp) ?_);show wpAny _ _ (newExc (.type "StopIteration") []>>= _) _ _ _;simp only[newExc,newTuple];refine uE (uE (wpAny_newObj_type ?_ (by size_fits)));refine uE (m:=firstArgMember _ _) (wpAny_of_eq (a:=Value.none) (by first|rfl|(simp only[firstArgMember];rfl)) (wpAny_newObj_type ?_ (by size_fits)));simp only[raiseNew];refine uE (wpAny_handled ?_);rw[show A.in1.handled=none from hh];refine uE (uG (wpAny_throw ?_));refine uE (wpAny_isInstance (b:=true) (T:="StopIteration") ⟨_,vj _ rfl,rfl⟩ isSubtype_stop ?_);exact uG (q _ (((Heap.SameBut.update ..).extBut.push _).push _))
end
noncomputable def Itc(d:Addr)(o:Obj)(T:CT):It:=
 ⟨fun i H=>H d=some (b8 d o)/\i<T.length,fun i H x H'=>H'=H/\∃t,T[i]?=some t/\x=.ref t.2.1,fun i H=>H d=some (b8 d o)/\T.length<=i⟩
theorem nU{P:Program}{w:World}{K:Frag}{tg:Expr}(d it:Addr)(o:Obj)(T:CT){es:Array DictEntry}{ep:Nat}(hd:o.data=.dict es ep)(hT:∃vs,es.toList=vs.map (entryOfKey (bS P w))/\CTv T vs):
  Turn P w K tg (Itc d o T) [it] it (fun i h=>h.IsKeyIter it d i es.size ep) where
 mem:=by simp
 obj:=fun i h st b hb=>by
  have e:b=it:=by simpa using hb
  subst e;obtain⟨o,e,c,d⟩:=st;exact⟨o,e,fun v z=>by rw[d]at z;cases z⟩
 keep:=fun i h h' st k=>st.at fun o e=>k it (by simp) o e
 item:=by
  intro X hP hw hK hc i pins s σ H E I hf st hg;obtain⟨ha,hi⟩:=hg;obtain⟨vs,e1,e2⟩:=hT;have lt:=hJ e2;have g:s.heap.get? d=some o:=(I.hok d _ ha).1;obtain⟨t,ht⟩:∃t,T[i]?=some t:=⟨T[i],by simp[hi]⟩;obtain⟨v,hv,r1,r2,r3⟩:=aZ e2 ht;have he:es[i]?=some (entryOfKey (bS P w) v):=by rw[<-uY,e1,vz,hv];rfl
  obtain⟨f0,f1,f2,f3,f4,f5⟩:=hf it (by simp);refine nF st g hd he fun h' st' sb=>?_;have I1:Inv X pins σ H {s with heap:=h'}:=I.turned (t':=s.toks) (fun b o hb e=>(sb.2 b hb).trans e) f0 f1 f3 f4 f5;obtain⟨oi,e,c,d'⟩:=id st';exact⟨_,rfl,pq (s:={s with heap:=h'}) e c d' (by decide) ⟨.ref t.2.1,H,I1,by rw[r2];rfl,⟨rfl,t,ht,rfl⟩,st',fun b hb=>(hf b hb).1⟩⟩
 done:=by
  intro X hP hw hK hc i pins s σ H E I hf st hg;obtain⟨ha,hi⟩:=hg;obtain⟨vs,e1,e2⟩:=hT;have lt:=hJ e2;have g:s.heap.get? d=some o:=(I.hok d _ ha).1;have le:es.size=vs.length:=by rw[<-uP,e1,uF]
  obtain⟨f0,f1,f2,f3,f4,f5⟩:=hf it (by simp);exact oY (I.ok.hd hc) st g hd (by omega) fun h' eb=>⟨rfl,I.turned (t':=s.toks) (fun b o hb e=>eb b o hb e) f0 f1 f3 f4 f5⟩
 self:=fun _ _ _ _ _ st h=>wpAny_pyIter_keyiter st h
section
variable{X:Cx}{tg:Expr}
def uB(P:Program)(w:World)(tl:TE):TI:=fun σ H R=>tl σ H fun x H1=>∃d o T,x=.ref d/\H1 d=some (b8 d o)/\jO P w o T/\(d==sysModules)=false/\R (Itc d o T) H1
theorem rN{l:Expr}{tl:TE}(hl:PE X l tl):PI X tg l (uB X.prog X.w tl):=by
 intro pins s σ H R I h;refine thn (hl pins s σ H _ I h) fun v s1 hPz=>?_;obtain⟨x,H1,I1,r1,q1⟩:=hPz;obtain⟨d,o,T,rfl,hd,ho,nm,q⟩:=q1;cases r1;obtain⟨es,ep,vs,e1,e2,e3,e4⟩:=ho.es;have g:s1.heap.get? d=some o:=(I1.hok d _ hd).1;refine lE nm g ho.ex e1 ?_;refine⟨s1.heap.objs.size,[s1.heap.objs.size],_,_,H1,rfl,I1.kept (t':=s1.toks) fun b o e=>uI _ e,nU d _ o T e1 ⟨vs,e2,e3⟩,⟨_,vj _ rfl,rfl,rfl⟩,fun b hb=>?_,q⟩;have e:b=s1.heap.objs.size:=by simpa using hb
 subst e;exact I1.fpOk (uW _) (I1.hok.fresh (uW _))
theorem tZ{d:Addr}{o:Obj}{T:CT}{g:TG}{tt:TT}{te:TE}{σ0:St}{Q:Hp->Prop}{D:Addr}{H:Hp}(Pv:Nat->List V->Hp->Prop)(h0:Pv 0 [] H)(hl:∀i acc H,i<=T.length->Pv i acc H->H d=some (b8 d o))
  (hs:∀i t acc H2,T[i]?=some t->Pv i acc H2->g (.ref t.2.1) σ0 H2 fun σ2 H4=>tt σ2 H4 fun b H5=>if b=true then te σ2 H5 fun y H6=>H6 D=some (.lst acc)/\acc.length<sizeLine/\Pv (i+1) (acc++[y]) (upd H6 D (.lst (acc++[y])))else Pv (i+1) acc H5)
  (hd:∀acc H2,Pv T.length acc H2->Q H2):
  ∃W:Nat->Nat->List V->Hp->Prop,(∃m,W 0 m [] H)/\∀i m acc H2,W i m acc H2->
   ((Itc d o T).stop i H2/\Q H2)\/((Itc d o T).go i H2/\∃N:List V->Hp->Prop,(∀acc' H',N acc' H'->∃m',m'<m/\W (i+1) m' acc' H')/\∀x H3,(Itc d o T).yld i H2 x H3->g x σ0 H3 fun σ2 H4=>tt σ2 H4 fun b H5=>if b=true then te σ2 H5 fun y H6=>H6 D=some (.lst acc)/\acc.length<sizeLine/\N (acc++[y]) (upd H6 D (.lst (acc++[y])))else N acc H5):=by
 refine⟨fun i m acc H=>m=T.length-i/\i<=T.length/\Pv i acc H,⟨T.length,by simp,vN _,h0⟩,?_⟩;rintro i m acc H2 ⟨rfl,hi,p⟩;have q:=hl i acc H2 hi p;by_cases hlt:i<T.length
 ·refine .inr ⟨⟨q,hlt⟩,Pv (i+1),fun acc' H' p'=>⟨T.length-(i+1),by omega,rfl,hlt,p'⟩,fun x H3 y=>?_⟩;obtain⟨e,t,ht,rfl⟩:=y;subst e;exact hs i t acc _ ht p
 ·have e:i=T.length:=by omega
  subst e;exact .inl ⟨⟨q,uW _⟩,hd acc H2 p⟩
end
end L2
namespace L2
open PySem PySem.Spec PyProof.Rows
open LM (dC dB oR)
theorem nh{T:CT}{c:Col}{b:Addr}{v:V}{P:Col×Addr×V->Prop}(hT:∀t∈T,P t)(hn:P (c,b,v))(hs:∀t,P t->∀u,P (t.1,t.2.1,u)):∀t∈cY T c b v,P t:=by
 intro t ht;unfold cY at ht;split at ht
 ·obtain⟨u,hu,rfl⟩:=u0.mp ht;split
  ·exact hs u (hT u hu) v
  ·exact hT u hu
 ·rcases uR.mp ht with a|a
  ·exact hT t a
  ·rw[uV.mp a];exact hn
end L2
namespace L2
open PySem PySem.Spec PyProof.Rows
theorem jW{K:Frag}{H:Hp}:∀(r:List Key),fQ K H (r.map cI) (r.map kV)
 | []=>.nil
 |k::r=>by
  refine .cons ?_ (jW r);cases k with
  |inl i=>exact .int i
  |inr x=>exact .str x
theorem d8.isD{K:Frag}{H:Hp}{b:Addr}{c:Col}(h:d8 K H b c):IsD K H (lK c) (.ref b):=by
 obtain⟨l,xs,h1,h2⟩:=h;refine .tup h1 ?_;clear h1 l
 induction h2 with
 |nil=>exact .nil
 |cons a _ ih=>obtain⟨x,rfl,hx⟩:=a;exact .cons (.tup hx (jW _)) ih
section
variable{X:Cx}{pins:List (Addr×Obj)}{σ:St}{H:Hp}{s:Shared}{h':Heap}
theorem p7{t':Nat}{e it T:Addr}{xs:List V}(I:Inv X pins σ H s)(k:∀b o,b≠e->b≠it->s.heap.get? b=some o->h'.get? b=some o)(he:f9 X pins H e)(hi:f9 X pins H it)
  (hT:s.heap.objs.size<=T) (new:bN X.prog X.w (upd H T (.tup xs)) h' T (.tup xs)):Inv X pins σ (upd H T (.tup xs)) {s with heap:=h',toks:=t'}:=by
 obtain⟨e0,e1,e2,e3,e4,e5⟩:=he;obtain⟨i0,i1,i2,i3,i4,i5⟩:=hi;have hn:H T=none:=I.hok.fresh hT;have nt:∀b o,s.heap.get? b=some o->b≠T:=fun b o g z=>absurd (uQ (uU g) (z▸hT)) (Nat.lt_irrefl _);have ue:∀b u,H b=some u->upd H T (.tup xs) b=some u:=fun b u g=>by rw[ak (bH g hn)];exact g
 have k2:∀b o,b∉[e,it]->s.heap.get? b=some o->h'.get? b=some o:=fun b o hb g=>k b o (fun z=>hb (by simp[z])) (fun z=>hb (by simp[z])) g;refine I.step (g':=s.gens) (d':=s.drawn) (ch:=[e,it]) (fun b hb=>?_) (fun b o _ _ hc g _=>k2 b o hc g) (fun b o _ _ hc g _=>⟨o.slots,k2 b o hc g⟩) (fun b o _ g n=>by rw[ak (nt b o g)];exact n)
  (fun b o hc g=>⟨o,k2 b o hc g⟩) (fun b ys g=>ue b _ g) (fun b o u g=>ue b _ g) (fun b ps g=>⟨#[],by rw[ue b _ g];simp⟩) (fun m hm=>?_) (fun b u g=>?_) I.bare
 ·have z:b=e\/b=it:=by simpa using hb
  rcases z with rfl|rfl
  ·exact⟨e3,e1,e4,e5⟩
  ·exact⟨i3,i1,i4,i5⟩
 ·obtain⟨o,es,ep,ho,r⟩:=hm;exact⟨o,es,ep,k _ o (Ne.symm e1) (Ne.symm i1) ho,r⟩
 ·by_cases hb:b=T
  ·subst hb;rw[ab]at g;cases g;exact new
  ·rw[ak hb]at g;refine(I.hok b u g).stay (fun c v hc q=>?_) (fun c q=>ue c _ q) fun c ys q=>ue c _ q;have z:∃u',H c=some u':=by
    rcases hc with z|z
    ·exact⟨u,z▸g⟩
    ·exact⟨_,z⟩
   obtain⟨u',z⟩:=z;exact k c v (fun y=>by rw[y,e0]at z;cases z) (fun y=>by rw[y,i0]at z;cases z) q
end
end L2
namespace L2
open PySem PyProof.Rows
noncomputable abbrev SM(α:Type):=StateT SortSt Sem α
noncomputable def sC(bq:Nat->SM (Option Bool))(n hint:Nat):SM (Option Nat):=do
 let mut lastofs:=0
 let mut ofs:=1
 let mut lo:=0
 let mut hi:=0
 let some right <-bq hint|return none
 if right then
  let maxofs:=n-hint
  for _ in[0:n] do
   if ofs>=maxofs then break
   let some more <-bq (hint+ofs)|return none
   if !more then break
   lastofs:=ofs
   ofs:=2*ofs+1
  lo:=hint+lastofs+1
  hi:=hint+min ofs maxofs
 else
  let maxofs:=hint+1
  for _ in[0:n] do
   if ofs>=maxofs then break
   let some found <-bq (hint-ofs)|return none
   if found then break
   lastofs:=ofs
   ofs:=2*ofs+1
  lo:=hint+1-min ofs maxofs
  hi:=hint-lastofs
 for _ in[0:n] do
  if lo>=hi then break
  let m:=lo+(hi-lo) / 2
  let some more <-bq m|return none
  if more then lo:=m+1 else hi:=m
 return some hi
noncomputable def dg:Bool->Keyed->Array Keyed->Nat->Nat->Nat->SM (Option Nat):=sortPriv% PySem.Builtin.gallop
noncomputable def bey(left:Bool)(key:Keyed)(arr:Array Keyed)(base i:Nat):SM (Option Bool):=do
 let x <-elem' arr (base+i)
 if left then lt' x key else return (<-lt' key x).map (!·)
theorem kz(left:Bool)(key:Keyed)(arr:Array Keyed)(base n hint:Nat):dg left key arr base n hint=sC (bey left key arr base) n hint:=rfl
section
variable{prog:Program}{w:World}{A:Around}{E:Value->Shared->Prop}{s:Shared}
theorem jR{bq:Nat->SM (Option Bool)}{n lo hi:Nat}{st:SortSt}{Q:Option Nat->SortSt->Prop}{f:Nat->Option (Option Nat)×Nat×Nat->SM (ForInStep (Option (Option Nat)×Nat×Nat))}{g:Option (Option Nat)×Nat×Nat->SM (Option Nat)}
  {k:Nat->Nat->Option Bool->SM (ForInStep (Option (Option Nat)×Nat×Nat))}
  (hf:∀x l r,f x (none,l,r)=if l>=r then pure (ForInStep.done (none,l,r))else bq (l+(r-l) / 2)>>= k l r)
  (hk:∀l r b,k l r (some b)=if b=true then pure (ForInStep.yield (none,l+(r-l) / 2+1,r))else pure (ForInStep.yield (none,l,l+(r-l) / 2)))
  (hg:∀l r,g (none,l,r)=pure (some r)) (B:Nat->Bool)
  (hb:∀i,i<n->∀(R:Option Bool->SortSt->Prop),R (some (B i)) st->wpS (model prog w) A E s (bq i) R st) (mono:∀i j,i<=j->j<n->B j=true->B i=true) (h1:lo<=hi) (h2:hi<=n)
  (h3:∀i,i<lo->B i=true) (h4:∀i,hi<=i->i<n->B i=false)
  (h:∀k,k<=n->(∀i,i<k->B i=true)->(∀i,k<=i->i<n->B i=false)->Q (some k) st):wpS (model prog w) A E s (forIn [:n] (none,lo,hi) f>>= g) Q st:=by
 refine uH (wpS_mono (vV (I:=fun x c st'=>st'=st/\∃l r,c=(none,l,r)/\l<=r/\r<=n/\r-l<=n-x/\(∀i,i<l->B i=true)/\∀i,r<=i->i<n->B i=false) (Q:=fun c st'=>st'=st/\∃k,c=(none,k,k)/\k<=n/\(∀i,i<k->B i=true)/\∀i,k<=i->i<n->B i=false) ?step ?fin ⟨rfl,lo,hi,rfl,h1,h2,by omega,h3,h4⟩) ?post)
 case post=>rintro c st' ⟨rfl,k,rfl,k1,k2,k3⟩;rw[hg];exact uJ (h k k1 k2 k3)
 case fin=>
  rintro c st' ⟨rfl,l,r,rfl,a1,a2,a3,a4,a5⟩;have:l=r:=by omega
  subst this;exact⟨rfl,l,rfl,a2,a4,a5⟩
 case step=>
  rintro x c st' _ hx ⟨rfl,l,r,rfl,a1,a2,a3,a4,a5⟩;rw[hf];by_cases hge:l>=r
  ·rw[uM hge];have:l=r:=(by omega);subst this;exact uJ ⟨rfl,l,rfl,a2,a4,a5⟩
  ·rw[uK hge];refine uH (hb _ (by omega) _ ?_);rw[hk];cases hm:B (l+(r-l) / 2)with
   |true=>rw[uM rfl];exact uJ ⟨rfl,_,r,rfl,by omega,a2,by omega,fun i hi=>mono i _ (by omega) (by omega) hm,a5⟩
   |false=>
    rw[uK (by decide)];refine uJ ⟨rfl,l,_,rfl,by omega,by omega,by omega,a4,fun i hi hn=>?_⟩;cases hi':B i with
    |false=>rfl
    |true=>rw[mono _ i hi hn hi']at hm;cases hm
theorem nP{bq:Nat->SM (Option Bool)}{n hint:Nat}{st:SortSt}{Q:Option Nat->SortSt->Prop}(B:Nat->Bool)
  (hb:∀i,i<n->∀(R:Option Bool->SortSt->Prop),R (some (B i)) st->wpS (model prog w) A E s (bq i) R st) (mono:∀i j,i<=j->j<n->B j=true->B i=true) (hh:hint<n)
  (h:∀k,k<=n->(∀i,i<k->B i=true)->(∀i,k<=i->i<n->B i=false)->Q (some k) st):wpS (model prog w) A E s (sC bq n hint) Q st:=by
 unfold sC;refine uH (hb hint hh _ ?_);dsimp only;cases h0:B hint with
 |true=>
  rw[uM rfl];refine uH (wpS_mono (vV (I:=fun x c st'=>st'=st/\∃l o,c=(none,l,o)/\l<o/\x+1<=o/\hint+l<n/\B (hint+l)=true) (Q:=fun c st'=>st'=st/\∃l o,c=(none,l,o)/\l<o/\hint+l<n/\B (hint+l)=true/\(n-hint<=o\/(hint+o<n/\B (hint+o)=false))) ?step ?fin ⟨rfl,0,1,rfl,by omega,by omega,by omega,h0⟩) ?post)
  case fin=>rintro c st' ⟨rfl,l,o,rfl,a1,a2,a3,a4⟩;exact⟨rfl,l,o,rfl,a1,a3,a4,.inl (by omega)⟩
  case step=>
   rintro x c st' _ hx ⟨rfl,l,o,rfl,a1,a2,a3,a4⟩;dsimp only;by_cases hge:o>=n-hint
   ·rw[uM hge];exact uJ ⟨rfl,l,o,rfl,a1,a3,a4,.inl hge⟩
   ·rw[uK hge];refine uH (hb _ (by omega) _ ?_);dsimp only;cases hm:B (hint+o)with
    |true=>rw[uK (by decide)];exact uJ ⟨rfl,o,_,rfl,by omega,by omega,by omega,hm⟩
    |false=>rw[uM (by decide)];exact uJ ⟨rfl,l,o,rfl,a1,a3,a4,.inr ⟨by omega,hm⟩⟩
  case post=>
   rintro c st' ⟨rfl,l,o,rfl,a1,a3,a4,a5⟩;dsimp only;refine jR (bq:=bq) (fun _ _ _=>rfl) (fun _ _ _=>rfl) (fun _ _=>rfl) B hb mono ?_ ?_ (fun i hi=>mono i _ (by have hi':i<hint+l+1:=hi;omega) (by omega) a4) (fun i hi hn=>?_) h
   ·show hint+l+1<=hint+min o (n-hint);omega
   ·show hint+min o (n-hint)<=n;omega
   ·have hi':hint+min o (n-hint)<=i:=hi;rcases a5 with z|⟨z1,z2⟩
    ·omega
    ·cases hb':B i with
     |false=>rfl
     |true=>rw[mono (hint+o) i (by omega) hn hb']at z2;cases z2
 |false=>
  rw[uK (by decide)];refine uH (wpS_mono (vV (I:=fun x c st'=>st'=st/\∃l o,c=(none,l,o)/\l<o/\x+1<=o/\l<=hint/\B (hint-l)=false) (Q:=fun c st'=>st'=st/\∃l o,c=(none,l,o)/\l<o/\l<=hint/\B (hint-l)=false/\(hint+1<=o\/(o<=hint/\B (hint-o)=true))) ?step ?fin ⟨rfl,0,1,rfl,by omega,by omega,by omega,h0⟩) ?post)
  case fin=>rintro c st' ⟨rfl,l,o,rfl,a1,a2,a3,a4⟩;exact⟨rfl,l,o,rfl,a1,a3,a4,.inl (by omega)⟩
  case step=>
   rintro x c st' _ hx ⟨rfl,l,o,rfl,a1,a2,a3,a4⟩;dsimp only;by_cases hge:o>=hint+1
   ·rw[uM hge];exact uJ ⟨rfl,l,o,rfl,a1,a3,a4,.inl hge⟩
   ·rw[uK hge];refine uH (hb _ (by omega) _ ?_);dsimp only;cases hm:B (hint-o)with
    |false=>rw[uK (by decide)];exact uJ ⟨rfl,o,_,rfl,by omega,by omega,by omega,hm⟩
    |true=>rw[uM rfl];exact uJ ⟨rfl,l,o,rfl,a1,a3,a4,.inr ⟨by omega,hm⟩⟩
  case post=>
   rintro c st' ⟨rfl,l,o,rfl,a1,a3,a4,a5⟩;dsimp only;refine jR (bq:=bq) (fun _ _ _=>rfl) (fun _ _ _=>rfl) (fun _ _=>rfl) B hb mono ?_ ?_ (fun i hi=>?_) (fun i hi hn=>?_) h
   ·show hint+1-min o (hint+1)<=hint-l;omega
   ·show hint-l<=n;omega
   ·have hi':i<hint+1-min o (hint+1):=hi;rcases a5 with z|⟨z1,z2⟩
    ·omega
    ·exact mono i _ (by omega) (by omega) z2
   ·have hi':hint-l<=i:=hi;cases hb':B i with
    |false=>rfl
    |true=>rw[mono (hint-l) i hi' hn hb']at a4;cases a4
end
end L2
namespace LT
open PySem PyProof.Rows L2
class KN where
 kn:Keyed->Int
 isK:Keyed->Prop
 kd:type_of% oneType'
class ij(prog:Program)(w:World)(A:Around)(E:Value->Shared->Prop)(s:Shared)[KN]:Prop where
 lt:∀{st:SortSt}{x y:Keyed}{Q:Option Bool->SortSt->Prop},kindOf st=KN.kd->KN.isK x->KN.isK y->Q (some (decide (KN.kn x<KN.kn y))) st->wpS (model prog w) A E s (lt' x y) Q st
variable[KN]
noncomputable def kn(p:Keyed):Int:=KN.kn p
def IsK(p:Keyed):Prop:=KN.isK p
noncomputable abbrev kd0:type_of% oneType':=KN.kd
noncomputable def K(xs:Array Keyed)(i:Nat):Int:=match xs[i]? with
 |some p=>kn p
 |none=>0
def SortedTo(xs:Array Keyed)(k:Nat):Prop:=∀i j,i<=j->j<k->K xs i<=K xs j
def fP(xs:Array Keyed):Prop:=∀p,p∈xs.toList->IsK p
theorem K_congr{xs ys:Array Keyed}{i j:Nat}(h:xs[i]?=ys[j]?):K xs i=K ys j:=by unfold K;rw[h]
theorem K_bubble{xs:Array Keyed}{src d:Nat}(hs:src<xs.size)(hd:d<=src)(k:Nat):K (bubble xs src d) k=if k=src-d then K xs src else if src-d<k/\k<=src then K xs (k-1)else K xs k:=by
 have e:=getElem?_bubble hs d hd k;split
 ·rename_i h;rw[uM h]at e;exact K_congr e
 ·rename_i h;rw[uK h]at e;split
  ·rename_i h2;rw[uM h2]at e;exact K_congr e
  ·rename_i h2;rw[uK h2]at e;exact K_congr e
theorem K_mirror{xs:Array Keyed}{i j:Nat}(hj:j<=xs.size)(k:Nat):K (mirror xs i j ((j-i) / 2)) k=if i<=k/\k<j then K xs (i+j-1-k)else K xs k:=by
 have e:=getElem?_mirror_all (i:=i) hj k;split
 ·rename_i h;rw[uM h]at e;exact K_congr e
 ·rename_i h;rw[uK h]at e;exact K_congr e
theorem K_mirror_equal{xs:Array Keyed}{i j:Nat}(hj:j<=xs.size)(heq:∀k,i<=k->k<j->K xs k=K xs (j-1))(k:Nat):K (mirror xs i j ((j-i) / 2)) k=K xs k:=by
 rw[K_mirror hj];split
 ·rw[heq _ (by omega) (by omega),heq k (by omega) (by omega)]
 ·rfl
section
variable{prog:Program}{w:World}{A:Around}{E:Value->Shared->Prop}{s:Shared}[ij prog w A E s]
theorem fo{st:SortSt}{x y:Keyed}{Q:Option Bool->SortSt->Prop}(hk:kindOf st=kd0)(hx:IsK x)(hy:IsK y)(h:Q (some (decide (kn x<kn y))) st):wpS (model prog w) A E s (lt' x y) Q st:=ij.lt hk hx hy h
theorem av{st:SortSt}{arr:Array Keyed}{i:Nat}{p:Keyed}{Q:Keyed->SortSt->Prop}(e:arr[i]?=some p)(h:Q p st):wpS (model prog w) A E s (elem' arr i) Q st:=by rw[elem'_eq,e];exact uJ h
theorem c7{left:Bool}{key:Keyed}{arr:Array Keyed}{base n hint:Nat}{st:SortSt}{Q:Option Nat->SortSt->Prop}(xs:List Keyed)(hk:kindOf st=kd0)(hkey:IsK key)(hx:∀x∈xs,IsK x)
  (hn:xs.length=n) (ha:∀i,i<n->arr[base+i]?=xs[i]?) (so:xs.Pairwise fun a b=>kn a<=kn b) (hh:hint<n)
  (h:∀k,k<=n->(∀x∈xs.take k,if left=true then kn x<kn key else kn x<=kn key)->(∀x∈xs.drop k,if left=true then kn key<=kn x else kn key<kn x)->Q (some k) st):wpS (model prog w) A E s (dg left key arr base n hint) Q st:=by
 rw[kz];have le:∀i j(hi:i<xs.length)(hj:j<xs.length),i<=j->kn xs[i]<=kn xs[j]:=fun i j hi hj hij=>by
  rcases Nat.lt_or_eq_of_le hij with z|z
  ·exact vS.mp so i j hi hj z
  ·subst z;exact wm _
 refine nP (fun i=>match xs[i]? with|some x=>if left=true then decide (kn x<kn key)else !decide (kn key<kn x)|none=>false) (fun i hi R hR=>?_) (fun i j hij hj b=>?_) hh fun k k1 k2 k3=>h k k1 (fun x hx'=>?_) (fun x hx'=>?_)
 ·have e:xs[i]?=some xs[i]:=va (by omega);unfold bey;refine uH (av ((ha i hi).trans e) ?_);rw[e]at hR;dsimp only at hR;have hxi:=hx _ (List.getElem_mem (show i<xs.length by omega));cases left with
  |true=>rw[uM rfl]at hR ⊢;exact fo hk hxi hkey hR
  |false=>rw[uK (by decide)]at hR ⊢;exact uH (fo hk hkey hxi (uJ hR))
 ·have ei:xs[i]?=some xs[i]:=va (by omega);have ej:xs[j]?=some xs[j]:=va (by omega);have l:=le i j (by omega) (by omega) hij;rw[ej]at b;rw[ei];dsimp only at b ⊢;cases left with
  |true=>rw[uM rfl]at b ⊢;have:=wu b;exact ve (by omega)
  |false=>rw[uK (by decide),Bool.not_eq_true',decide_eq_false_iff_not]at b ⊢;omega
 ·obtain⟨i,hi,rfl⟩:=List.getElem_of_mem hx';rw[vb]at hi;rw[List.getElem_take];have:=k2 i (by omega);rw[va (show i<xs.length by omega)]at this;dsimp only at this;cases left with
  |true=>rw[uM rfl]at this ⊢;exact wu this
  |false=>rw[uK (by decide)]at this ⊢;rw[Bool.not_eq_true',decide_eq_false_iff_not]at this;omega
 ·obtain⟨i,hi,rfl⟩:=List.getElem_of_mem hx';rw[wA]at hi;rw[List.getElem_drop];have:=k3 (k+i) (by omega) (by omega);rw[va (show k+i<xs.length by omega)]at this;dsimp only at this;cases left with
  |true=>rw[uM rfl]at this ⊢;rw[decide_eq_false_iff_not]at this;omega
  |false=>rw[uK (by decide)]at this ⊢;rw[Bool.not_eq_false',uX]at this;exact this
end
end LT
namespace LT
open PySem PyProof.Rows L2
variable[KN]
noncomputable def kl:Array Keyed->Array Keyed->SM (Array Keyed):=sortPriv% PySem.Builtin.mergeLo
noncomputable abbrev setG(z:SortSt)(g:Nat):SortSt:=SortSt.mk' (kindOf z) (arrOf z) (pendingOf z) g (failedOf z)
noncomputable def r9(a b:Array Keyed):SM (Array Keyed):=do
 rule "list.sort.merge-lo"
 let tot:=a.size+b.size
 let dn (ot:Array Keyed) (ja jb:Nat):=ot++a.extract ja a.size++b.extract jb b.size
 let la (ot:Array Keyed) (ja jb:Nat):=ot++b.extract jb b.size++a.extract ja a.size
 let mut ot:Array Keyed:= #[<-elem' b 0]
 let mut ja:=0
 let mut jb:=1
 if jb==b.size then return dn ot ja jb
 if ja+1==a.size then return la ot ja jb
 let mut mg:=gallopOf (<-get)
 for _ in[0:tot] do
  let mut ac:=0
  let mut bc:=0
  for _ in[0:tot] do
   let some bw <-lt' (<-elem' b jb) (<-elem' a ja)|return dn ot ja jb
   if bw then
    ot:=ot.push (<-elem' b jb);jb:=jb+1;bc:=bc+1;ac:=0
    if jb==b.size then return dn ot ja jb
    if bc>=mg then break
   else
    ot:=ot.push (<-elem' a ja);ja:=ja+1;ac:=ac+1;bc:=0
    if ja+1==a.size then return la ot ja jb
    if ac>=mg then break
  rule "list.sort.gallop"
  mg:=mg+1
  for _ in[0:tot] do
   if mg>1 then mg:=mg-1
   (modify fun z=>setG z mg)
   let some k <-dg false (<-elem' b jb) a ja (a.size-ja) 0|return dn ot ja jb
   ac:=k
   if k>0 then
    ot:=ot++a.extract ja (ja+k);ja:=ja+k
    if ja+1==a.size then return la ot ja jb
    if ja==a.size then return dn ot ja jb
   ot:=ot.push (<-elem' b jb);jb:=jb+1
   if jb==b.size then return dn ot ja jb
   let some k <-dg true (<-elem' a ja) b jb (b.size-jb) 0|return dn ot ja jb
   bc:=k
   if k>0 then
    ot:=ot++b.extract jb (jb+k);jb:=jb+k
    if jb==b.size then return dn ot ja jb
   ot:=ot.push (<-elem' a ja);ja:=ja+1
   if ja+1==a.size then return la ot ja jb
   if ac<7&&bc<7 then break
  mg:=mg+1
  (modify fun z=>setG z mg)
 unsupported "internal:list.sort.merge-bound"
theorem lg(a b:Array Keyed):kl a b=r9 a b:=rfl
structure Mg(a b out:List Keyed)(i j:Nat):Prop where
 pm:out.Perm (a.take i++b.take j)
 so:out.Pairwise fun x y=>kn x<=kn y
 le:∀x∈out,∀y∈a.drop i++b.drop j,kn x<=kn y
def Mgd(a b out:List Keyed):Prop:=out.Perm (a++b)/\out.Pairwise fun x y=>kn x<=kn y
abbrev So(a:List Keyed):Prop:=a.Pairwise fun x y=>kn x<=kn y
theorem So.drop{a:List Keyed}(h:So a)(i:Nat):So (a.drop i):=List.Pairwise.sublist (List.drop_sublist i a) h
theorem fJ{a:List Keyed}{i:Nat}{x:Keyed}(h:a[i]?=some x):a.drop i=x::a.drop (i+1):=by obtain⟨hi,e⟩:=uS.mp h;rw[<-e,List.getElem_cons_drop]
theorem je{a:List Keyed}{i:Nat}{x:Keyed}(h:a[i]?=some x):a.take (i+1)=a.take i++[x]:=by rw[vo,h];rfl
theorem Mg.pushB{a b out:List Keyed}{i j:Nat}{x:Keyed}(h:Mg a b out i j)(sb:So b)(e:b[j]?=some x)(hl:∀y∈a.drop i,kn x<=kn y):Mg a b (out++[x]) i (j+1):=by
 have db:=fJ e;have sx:=sb.drop j;rw[db]at sx;refine⟨?_,?_,fun y hy z hz=>?_⟩
 ·rw[je e,<-vg];exact h.pm.append_right _
 ·refine vA.mpr ⟨h.so,wC _ _,fun y hy z hz=>?_⟩;rw[uV.mp hz];exact h.le y hy x (vc _ (by rw[db];exact uN ..))
 ·rcases uR.mp hy with w|w
  ·refine h.le y w z ?_;rcases uR.mp hz with v|v
   ·exact vq _ v
   ·exact vc _ (by rw[db];exact uL _ v)
  ·rw[uV.mp w];rcases uR.mp hz with v|v
   ·exact hl z v
   ·exact(List.pairwise_cons.mp sx).1 z v
theorem Mg.swap{a b out:List Keyed}{i j:Nat}(h:Mg a b out i j):Mg b a out j i:=
 ⟨h.pm.trans List.perm_append_comm,h.so,fun x hx y hy=>h.le x hx y (by rcases uR.mp hy with v|v;exact vc _ v;exact vq _ v)⟩
theorem Mg.pushA{a b out:List Keyed}{i j:Nat}{x:Keyed}(h:Mg a b out i j)(sa:So a)(e:a[i]?=some x)(hl:∀y∈b.drop j,kn x<=kn y):Mg a b (out++[x]) (i+1) j:=(h.swap.pushB sa e hl).swap
theorem Mg.bulkA{a b:List Keyed}(sa:So a){j:Nat}:∀(k:Nat){out:List Keyed}{i:Nat},Mg a b out i j->i+k<=a.length->(∀x∈(a.drop i).take k,∀y∈b.drop j,kn x<=kn y)->Mg a b (out++(a.drop i).take k) (i+k) j
 | 0,out,i,h,_,_=>by rw[List.take_zero,vG];exact h
 |k+1,out,i,h,hk,hl=>by obtain⟨x,e⟩:∃x,a[i]?=some x:=⟨_,va (by omega)⟩;have da:=fJ e;rw[da,List.take_succ_cons]at hl ⊢;have h1:=h.pushA sa e (hl x (uN ..));have h2:=Mg.bulkA sa k h1 (by omega) (fun y hy=>hl y (uL _ hy));rw[vg,List.singleton_append]at h2;rw[show i+(k+1)=i+1+k by omega];exact h2
theorem Mg.bulkB{a b:List Keyed}(sb:So b){i:Nat}(k:Nat){out:List Keyed}{j:Nat}(h:Mg a b out i j)(hk:j+k<=b.length)(hl:∀x∈(b.drop j).take k,∀y∈a.drop i,kn x<=kn y):Mg a b (out++(b.drop j).take k) i (j+k):=
 (Mg.bulkA sb k h.swap hk hl).swap
theorem Mg.fin{a b out:List Keyed}{i j:Nat}(h:Mg a b out i j)(sa:So a)(sb:So b)(hc:∀x∈a.drop i,∀y∈b.drop j,kn x<=kn y):Mgd a b (out++a.drop i++b.drop j):=by
 refine⟨?_,?_⟩
 ·have p1:(out++a.drop i++b.drop j).Perm ((a.take i++b.take j)++(a.drop i++b.drop j)):=by
   rw[vg];exact h.pm.append_right _
  refine p1.trans ?_;have p2:((a.take i++b.take j)++(a.drop i++b.drop j)).Perm ((a.take i++a.drop i)++(b.take j++b.drop j)):=by rw[vg,vg];refine List.Perm.append_left _ ?_;rw[<-vg,<-vg];exact List.perm_append_comm.append_right _
  rw[vL,vL]at p2;exact p2
 ·rw[vg];refine vA.mpr ⟨h.so,vA.mpr ⟨sa.drop i,sb.drop j,hc⟩,h.le⟩
theorem Mgd.swap{a b out:List Keyed}(h:Mgd b a out):Mgd a b out:=⟨h.1.trans List.perm_append_comm,h.2⟩
theorem cE{a:Array Keyed}{i j:Nat}:(a.extract i j).toList=(a.toList.drop i).take (j-i):=by simp[Array.toList_extract,List.extract_eq_take_drop]
theorem eQ{a:Array Keyed}{i:Nat}:(a.extract i a.size).toList=a.toList.drop i:=by rw[cE,List.take_of_length_le];rw[wA,uP];omega
section
variable{prog:Program}{w:World}{A:Around}{E:Value->Shared->Prop}{s:Shared}[ij prog w A E s]
structure SmG(st st':SortSt):Prop where
 kd:kindOf st'=kindOf st
 ar:arrOf st'=arrOf st
 pd:pendingOf st'=pendingOf st
 fl:failedOf st'=failedOf st
theorem SmG.refl(st:SortSt):SmG st st:=⟨rfl,rfl,rfl,rfl⟩
theorem SmG.g{st st':SortSt}(h:SmG st st')(g:Nat):SmG st (setG st' g):=⟨h.kd,h.ar,h.pd,h.fl⟩
theorem fU{a b ot:Array Keyed}{ja jb:Nat}(h:Mg a.toList b.toList ot.toList ja jb)(sa:So a.toList)(sb:So b.toList)(e:jb=b.size):Mgd a.toList b.toList (ot++a.extract ja a.size++b.extract jb b.size).toList:=by rw[vl,vl,eQ,eQ];refine h.fin sa sb fun x _ y hy=>?_;rw[wt (by rw[uP];omega)]at hy;cases hy
theorem sf{a b ot:Array Keyed}{ja jb:Nat}(h:Mg a.toList b.toList ot.toList ja jb)(sa:So a.toList)(sb:So b.toList)(e:ja=a.size):Mgd a.toList b.toList (ot++a.extract ja a.size++b.extract jb b.size).toList:=by rw[vl,vl,eQ,eQ];refine h.fin sa sb fun x hx=>?_;rw[wt (by rw[uP];omega)]at hx;cases hx
theorem gW{a b ot:Array Keyed}{ja jb:Nat}(h:Mg a.toList b.toList ot.toList ja jb)(sa:So a.toList)(sb:So b.toList)(h2:∀x∈b.toList,∀y,a.toList[a.size-1]?=some y->kn x<=kn y)(e:ja+1=a.size):
  Mgd a.toList b.toList (ot++b.extract jb b.size++a.extract ja a.size).toList:=by
 rw[vl,vl,eQ,eQ];refine(h.swap.fin sb sa fun x hx y hy=>?_).swap;obtain⟨z,ez⟩:∃z,a.toList[ja]?=some z:=⟨_,va (by rw[uP];omega)⟩;rw[fJ ez,wt (by rw[uP];omega),uV]at hy;rw[hy];exact h2 x (vY hx) z (by rw[show a.size-1=ja by omega];exact ez)
theorem bE{a:Array Keyed}{i:Nat}(h:i<a.size):∃x,a[i]?=some x/\a.toList[i]?=some x/\x∈a.toList:=
 ⟨a[i],Array.getElem?_eq_getElem h,by rw[va (by rw[uP];exact h),Array.getElem_toList],by simp⟩
theorem eK{a:List Keyed}(sa:So a){i:Nat}{x:Keyed}(e:a[i]?=some x):∀y∈a.drop i,kn x<=kn y:=fun y hy=>by
 have:=sa.drop i;rw[fJ e]at this hy;rcases vn.mp hy with z|z
 ·rw[z];exact wm _
 ·exact(List.pairwise_cons.mp this).1 y z
theorem pS{a b:Array Keyed}{st:SortSt}{Q:Array Keyed->SortSt->Prop}(hk:kindOf st=kd0)(ka:∀x∈a.toList,IsK x)(kb:∀x∈b.toList,IsK x)(sa:So a.toList)(sb:So b.toList)(na:1<=a.size)(nb:1<=b.size)
  (h1:∀x,b.toList[0]?=some x->∀y∈a.toList,kn x<=kn y) (h2:∀x∈b.toList,∀y,a.toList[a.size-1]?=some y->kn x<=kn y)
  (h:∀m st',SmG st st'->Mgd a.toList b.toList m.toList->Q m st'):wpS (model prog w) A E s (r9 a b) Q st:=by
 unfold r9;refine uH (wpS_lift (wpAny_rule ⟨rfl,?_⟩));obtain⟨b0,e0,e0',m0⟩:=bE (a:=b) (i:=0) (by omega);refine uH (av e0 ?_);have M0:Mg a.toList b.toList (#[b0]:Array Keyed).toList 0 1:=by have z:Mg a.toList b.toList [] 0 0:=⟨by simp,List.Pairwise.nil,fun _ hx=>nomatch hx⟩;exact z.pushB sb e0' (fun y hy=>h1 b0 e0' y (by simpa using hy))
 by_cases c1:(1==b.size)=true
 ·rw[uM c1];exact uJ (h _ _ (SmG.refl st) (fU M0 sa sb (by simpa using c1)))
 rw[uK c1];by_cases c2:(0+1==a.size)=true
 ·rw[uM c2];exact uJ (h _ _ (SmG.refl st) (gW M0 sa sb h2 (by simpa using c2)))
 rw[uK c2];have c1':1<b.size:=by
  have:¬1=b.size:=by simpa using c1
  omega
 have c2':0+1<a.size:=by
  have:¬0+1=a.size:=by simpa using c2
  omega
 refine uH (wpS_get ?_);refine uH (wpS_mono (vV (I:=fun x c st'=>SmG st st'/\∃ot ja jb mg,c=(none,ot,ja,jb,mg)/\Mg a.toList b.toList ot.toList ja jb/\ja+1<a.size/\jb<b.size/\x<ja+jb) (Q:=fun c st'=>SmG st st'/\∃r y,c=(some r,y)/\Mgd a.toList b.toList r.toList) ?step ?fin ⟨SmG.refl st,_,_,_,_,rfl,M0,c2',c1',by omega⟩) ?post)
 case fin=>rintro c st' ⟨_,ot,ja,jb,mg,_,_,l1,l2,l3⟩;omega
 case post=>rintro c st' ⟨sg,r,y,rfl,hr⟩;exact uJ (h r st' sg hr)
 case step=>
  rintro x c st1 _ hx ⟨sg,ot,ja,jb,mg,rfl,M,l1,l2,l3⟩;dsimp only;refine uH (wpS_mono (vV (I:=fun x1 c st'=>st'=st1/\∃ot1 ja1 jb1 ac bc,c=(none,ot1,ja1,jb1,ac,bc)/\Mg a.toList b.toList ot1.toList ja1 jb1/\ja1+1<a.size/\jb1<b.size/\x1+(ja+jb)<=ja1+jb1) (Q:=fun c st'=>st'=st1/\((∃r y,c=(some r,y)/\Mgd a.toList b.toList r.toList)\/∃ot1 ja1 jb1 ac bc,c=(none,ot1,ja1,jb1,ac,bc)/\Mg a.toList b.toList ot1.toList ja1 jb1/\ja1+1<a.size/\jb1<b.size/\ja+jb<ja1+jb1)) ?step1 ?fin1 ⟨rfl,ot,ja,jb,0,0,rfl,M,l1,l2,by omega⟩) ?post1)
  case fin1=>rintro c st' ⟨_,ot1,ja1,jb1,ac,bc,_,_,m1,m2,m3⟩;omega
  case step1=>
   rintro x1 c st' _ hx1 ⟨rfl,ot1,ja1,jb1,ac,bc,rfl,M1,m1,m2,m3⟩;dsimp only;obtain⟨xb,eb,eb',mb⟩:=bE (a:=b) m2;obtain⟨xa,ea,ea',ma⟩:=bE (a:=a) (show ja1<a.size by omega);refine uH (av eb (uH (av ea (uH (fo (sg.kd.trans hk) (kb _ mb) (ka _ ma) ?_)))));dsimp only;by_cases bw:kn xb<kn xa
   ·rw[ve bw,uM rfl];refine uH (av eb ?_);have M2:Mg a.toList b.toList (ot1.push xb).toList ja1 (jb1+1):=by
     rw[vm];exact M1.pushB sb eb' fun y hy=>Int.le_of_lt (Int.lt_of_lt_of_le bw (eK sa ea' y hy))
    by_cases d1:(jb1+1==b.size)=true
    ·rw[uM d1];exact uJ ⟨rfl,.inl ⟨_,_,rfl,fU M2 sa sb (by simpa using d1)⟩⟩
    rw[uK d1];have d1':¬jb1+1=b.size:=(by simpa using d1);by_cases d2:bc+1>=mg
    ·rw[uM d2];exact uJ ⟨rfl,.inr ⟨_,_,_,_,_,rfl,M2,m1,by omega,by omega⟩⟩
    ·rw[uK d2];exact uJ ⟨rfl,_,_,_,_,_,rfl,M2,m1,by omega,by omega⟩
   ·rw[vh bw,uK (by decide)];refine uH (av ea ?_);have M2:Mg a.toList b.toList (ot1.push xa).toList (ja1+1) jb1:=by
     rw[vm];exact M1.pushA sa ea' fun y hy=>we (Int.not_lt.mp bw) (eK sb eb' y hy)
    by_cases d1:(ja1+1+1==a.size)=true
    ·rw[uM d1];exact uJ ⟨rfl,.inl ⟨_,_,rfl,gW M2 sa sb h2 (by simpa using d1)⟩⟩
    rw[uK d1];have d1':¬ja1+1+1=a.size:=(by simpa using d1);by_cases d2:ac+1>=mg
    ·rw[uM d2];exact uJ ⟨rfl,.inr ⟨_,_,_,_,_,rfl,M2,by omega,m2,by omega⟩⟩
    ·rw[uK d2];exact uJ ⟨rfl,_,_,_,_,_,rfl,M2,by omega,m2,by omega⟩
  case post1=>
   rintro c st' ⟨rfl,⟨r,y,rfl,hr⟩|⟨ot1,ja1,jb1,ac,bc,rfl,M1,m1,m2,m3⟩⟩
   ·exact uJ ⟨sg,r,_,rfl,hr⟩
   dsimp only;refine uH (wpS_lift (wpAny_rule ⟨rfl,?_⟩));refine uH (wpS_mono (vV (I:=fun x2 c st'=>SmG st st'/\∃ot2 ja2 jb2 mg2 ac2 bc2,c=(none,ot2,ja2,jb2,mg2,ac2,bc2)/\Mg a.toList b.toList ot2.toList ja2 jb2/\ja2+1<a.size/\jb2<b.size/\x2+(ja1+jb1)<=ja2+jb2) (Q:=fun c st'=>SmG st st'/\((∃r y,c=(some r,y)/\Mgd a.toList b.toList r.toList)\/∃ot2 ja2 jb2 mg2 ac2 bc2,c=(none,ot2,ja2,jb2,mg2,ac2,bc2)/\Mg a.toList b.toList ot2.toList ja2 jb2/\ja2+1<a.size/\jb2<b.size/\ja1+jb1<=ja2+jb2)) ?step2 ?fin2 ⟨sg,ot1,ja1,jb1,_,_,_,rfl,M1,m1,m2,by omega⟩) ?post2)
   case fin2=>rintro c st' ⟨_,ot1,ja1,jb1,mg2,ac,bc,_,_,m1,m2,m3⟩;omega
   case post2=>
    rintro c st2 ⟨sg2,⟨r,y,rfl,hr⟩|⟨ot2,ja2,jb2,mg2,ac2,bc2,rfl,M2,o1,o2,o3⟩⟩
    ·exact uJ ⟨sg2,r,_,rfl,hr⟩
    dsimp only;refine uH (wpS_modify ?_);exact uJ ⟨sg2.g _,_,_,_,_,rfl,M2,o1,o2,by omega⟩
   case step2=>
    rintro x2 c st2 _ hx2 ⟨sg2,ot2,ja2,jb2,mg2,ac2,bc2,rfl,M2,o1,o2,o3⟩;dsimp only;obtain⟨xb,eb,eb',mb⟩:=bE (a:=b) o2;rcases wa 1 mg2 with hmg|hmg
    all_goals
     first|rw[uM hmg]|rw[uK (Nat.not_lt.mpr hmg)]
     refine uH (wpS_modify ?_);refine uH (av eb ?_);refine uH (c7 (a.toList.drop ja2) (sg2.kd.trans hk) (kb _ mb) (fun x hx=>ka x (vY hx)) (by rw[wA,uP]) (fun i hi=>?_) (sa.drop ja2) (by omega) fun k k1 k2 k3=>?_)
     ·rw[List.getElem?_drop,uY]
     dsimp only;have hbulk:Mg a.toList b.toList (ot2++a.extract ja2 (ja2+k)).toList (ja2+k) jb2:=by rw[vl,cE,show ja2+k-ja2=k by omega];refine Mg.bulkA sa k M2 (by rw[uP];omega) fun x hx y hy=>?_;have z:=k2 x hx;rw[uK (by decide)]at z;exact we z (eK sb eb' y hy)
     have hrest:∀y∈a.toList.drop (ja2+k),kn xb<=kn y:=fun y hy=>by rw[<-List.drop_drop]at hy;have z:=k3 y hy;rw[uK (by decide)]at z;omega
     rcases wa 0 k with hk0|hk0
     all_goals first|rw[uM hk0]|rw[uK (Nat.not_lt.mpr hk0)]
     ·by_cases d1:(ja2+k+1==a.size)=true
      ·rw[uM d1];exact uJ ⟨sg2.g _,.inl ⟨_,_,rfl,gW hbulk sa sb h2 (by simpa using d1)⟩⟩
      rw[uK d1];by_cases d2:(ja2+k==a.size)=true
      ·rw[uM d2];exact uJ ⟨sg2.g _,.inl ⟨_,_,rfl,sf hbulk sa sb (by simpa using d2)⟩⟩
      rw[uK d2];have d1':¬ja2+k+1=a.size:=(by simpa using d1);have d2':¬ja2+k=a.size:=(by simpa using d2);have o1':ja2+k+1<a.size:=(by omega);have o3':x2+(ja1+jb1)<=ja2+k+jb2:=(by omega);generalize ot2++a.extract ja2 (ja2+k)=ot3 at hbulk ⊢;generalize ja2+k=ja3 at hbulk hrest o1' o3' ⊢;refine uH (av eb ?_);have M3:Mg a.toList b.toList (ot3.push xb).toList ja3 (jb2+1):=by rw[vm];exact hbulk.pushB sb eb' hrest
      by_cases d3:(jb2+1==b.size)=true
      ·rw[uM d3];exact uJ ⟨sg2.g _,.inl ⟨_,_,rfl,fU M3 sa sb (by simpa using d3)⟩⟩
      rw[uK d3];have d3':¬jb2+1=b.size:=(by simpa using d3);obtain⟨xa,ea,ea',ma⟩:=bE (a:=a) (show ja3<a.size by omega);refine uH (av ea ?_);refine uH (c7 (b.toList.drop (jb2+1)) (sg2.kd.trans hk) (ka _ ma) (fun x hx=>kb x (vY hx)) (by rw[wA,uP]) (fun i hi=>?_) (sb.drop (jb2+1)) (by omega) fun k' k1' k2' k3'=>?_)
      ·rw[List.getElem?_drop,uY]
      dsimp only;have hbulk4:Mg a.toList b.toList (ot3.push xb++b.extract (jb2+1) (jb2+1+k')).toList ja3 (jb2+1+k'):=by rw[vl,cE,show jb2+1+k'-(jb2+1)=k' by omega];refine Mg.bulkB sb k' M3 (by rw[uP];omega) fun x hx y hy=>?_;have z:=k2' x hx;rw[uM rfl]at z;exact we (Int.le_of_lt z) (eK sa ea' y hy)
      have hrest4:∀y∈b.toList.drop (jb2+1+k'),kn xa<=kn y:=fun y hy=>by rw[<-List.drop_drop]at hy;have z:=k3' y hy;rw[uM rfl]at z;exact z
      rcases wa 0 k' with hk1|hk1
      all_goals first|rw[uM hk1]|rw[uK (Nat.not_lt.mpr hk1)]
      ·by_cases d4:(jb2+1+k'==b.size)=true
       ·rw[uM d4];exact uJ ⟨sg2.g _,.inl ⟨_,_,rfl,fU hbulk4 sa sb (by simpa using d4)⟩⟩
       rw[uK d4];have d4':¬jb2+1+k'=b.size:=(by simpa using d4);have o2':jb2+1+k'<b.size:=(by omega);have o3'':x2+1+(ja1+jb1)<=ja3+(jb2+1+k'):=(by omega);generalize ot3.push xb++b.extract (jb2+1) (jb2+1+k')=ot4 at hbulk4 ⊢;generalize jb2+1+k'=jb4 at hbulk4 hrest4 o2' o3'' ⊢;refine uH (av ea ?_);have M5:Mg a.toList b.toList (ot4.push xa).toList (ja3+1) jb4:=by rw[vm];exact hbulk4.pushA sa ea' hrest4
       by_cases d5:(ja3+1+1==a.size)=true
       ·rw[uM d5];exact uJ ⟨sg2.g _,.inl ⟨_,_,rfl,gW M5 sa sb h2 (by simpa using d5)⟩⟩
       rw[uK d5];have d5':¬ja3+1+1=a.size:=(by simpa using d5);split
       ·exact uJ ⟨sg2.g _,.inr ⟨_,_,_,_,_,_,rfl,M5,by omega,o2',by omega⟩⟩
       ·exact uJ ⟨sg2.g _,_,_,_,_,_,_,rfl,M5,by omega,o2',by omega⟩
      ·have k0':k'=0:=(by omega);subst k0';rw[Nat.add_zero]at hrest4;have o2':jb2+1<b.size:=(by omega);have o3'':x2+1+(ja1+jb1)<=ja3+(jb2+1):=(by omega);clear hbulk4;have hbulk4:=M3;generalize ot3.push xb=ot4 at hbulk4 ⊢;generalize jb2+1=jb4 at hbulk4 hrest4 o2' o3'' ⊢;refine uH (av ea ?_);have M5:Mg a.toList b.toList (ot4.push xa).toList (ja3+1) jb4:=by
        rw[vm];exact hbulk4.pushA sa ea' hrest4
       by_cases d5:(ja3+1+1==a.size)=true
       ·rw[uM d5];exact uJ ⟨sg2.g _,.inl ⟨_,_,rfl,gW M5 sa sb h2 (by simpa using d5)⟩⟩
       rw[uK d5];have d5':¬ja3+1+1=a.size:=(by simpa using d5);split
       ·exact uJ ⟨sg2.g _,.inr ⟨_,_,_,_,_,_,rfl,M5,by omega,o2',by omega⟩⟩
       ·exact uJ ⟨sg2.g _,_,_,_,_,_,_,rfl,M5,by omega,o2',by omega⟩
     ·have k0:k=0:=(by omega);subst k0;have hbulk':=M2;have hrest':=hrest;rw[Nat.add_zero]at hrest';have o1':=o1;have o3':=o3;clear hbulk hrest;have hbulk:=hbulk';have hrest:=hrest';clear hbulk' hrest';generalize ot2=ot3 at hbulk ⊢;generalize ja2=ja3 at hbulk hrest o1' o3' ⊢;refine uH (av eb ?_);have M3:Mg a.toList b.toList (ot3.push xb).toList ja3 (jb2+1):=by
       rw[vm];exact hbulk.pushB sb eb' hrest
      by_cases d3:(jb2+1==b.size)=true
      ·rw[uM d3];exact uJ ⟨sg2.g _,.inl ⟨_,_,rfl,fU M3 sa sb (by simpa using d3)⟩⟩
      rw[uK d3];have d3':¬jb2+1=b.size:=(by simpa using d3);obtain⟨xa,ea,ea',ma⟩:=bE (a:=a) (show ja3<a.size by omega);refine uH (av ea ?_);refine uH (c7 (b.toList.drop (jb2+1)) (sg2.kd.trans hk) (ka _ ma) (fun x hx=>kb x (vY hx)) (by rw[wA,uP]) (fun i hi=>?_) (sb.drop (jb2+1)) (by omega) fun k' k1' k2' k3'=>?_)
      ·rw[List.getElem?_drop,uY]
      dsimp only;have hbulk4:Mg a.toList b.toList (ot3.push xb++b.extract (jb2+1) (jb2+1+k')).toList ja3 (jb2+1+k'):=by rw[vl,cE,show jb2+1+k'-(jb2+1)=k' by omega];refine Mg.bulkB sb k' M3 (by rw[uP];omega) fun x hx y hy=>?_;have z:=k2' x hx;rw[uM rfl]at z;exact we (Int.le_of_lt z) (eK sa ea' y hy)
      have hrest4:∀y∈b.toList.drop (jb2+1+k'),kn xa<=kn y:=fun y hy=>by rw[<-List.drop_drop]at hy;have z:=k3' y hy;rw[uM rfl]at z;exact z
      rcases wa 0 k' with hk1|hk1
      all_goals first|rw[uM hk1]|rw[uK (Nat.not_lt.mpr hk1)]
      ·by_cases d4:(jb2+1+k'==b.size)=true
       ·rw[uM d4];exact uJ ⟨sg2.g _,.inl ⟨_,_,rfl,fU hbulk4 sa sb (by simpa using d4)⟩⟩
       rw[uK d4];have d4':¬jb2+1+k'=b.size:=(by simpa using d4);have o2':jb2+1+k'<b.size:=(by omega);have o3'':x2+1+(ja1+jb1)<=ja3+(jb2+1+k'):=(by omega);generalize ot3.push xb++b.extract (jb2+1) (jb2+1+k')=ot4 at hbulk4 ⊢;generalize jb2+1+k'=jb4 at hbulk4 hrest4 o2' o3'' ⊢;refine uH (av ea ?_);have M5:Mg a.toList b.toList (ot4.push xa).toList (ja3+1) jb4:=by rw[vm];exact hbulk4.pushA sa ea' hrest4
       by_cases d5:(ja3+1+1==a.size)=true
       ·rw[uM d5];exact uJ ⟨sg2.g _,.inl ⟨_,_,rfl,gW M5 sa sb h2 (by simpa using d5)⟩⟩
       rw[uK d5];have d5':¬ja3+1+1=a.size:=(by simpa using d5);split
       ·exact uJ ⟨sg2.g _,.inr ⟨_,_,_,_,_,_,rfl,M5,by omega,o2',by omega⟩⟩
       ·exact uJ ⟨sg2.g _,_,_,_,_,_,_,rfl,M5,by omega,o2',by omega⟩
      ·have k0':k'=0:=(by omega);subst k0';rw[Nat.add_zero]at hrest4;have o2':jb2+1<b.size:=(by omega);have o3'':x2+1+(ja1+jb1)<=ja3+(jb2+1):=(by omega);clear hbulk4;have hbulk4:=M3;generalize ot3.push xb=ot4 at hbulk4 ⊢;generalize jb2+1=jb4 at hbulk4 hrest4 o2' o3'' ⊢;refine uH (av ea ?_);have M5:Mg a.toList b.toList (ot4.push xa).toList (ja3+1) jb4:=by
        rw[vm];exact hbulk4.pushA sa ea' hrest4
       by_cases d5:(ja3+1+1==a.size)=true
       ·rw[uM d5];exact uJ ⟨sg2.g _,.inl ⟨_,_,rfl,gW M5 sa sb h2 (by simpa using d5)⟩⟩
       rw[uK d5];have d5':¬ja3+1+1=a.size:=(by simpa using d5);split
       ·exact uJ ⟨sg2.g _,.inr ⟨_,_,_,_,_,_,rfl,M5,by omega,o2',by omega⟩⟩
       ·exact uJ ⟨sg2.g _,_,_,_,_,_,_,rfl,M5,by omega,o2',by omega⟩
end
noncomputable def km:Array Keyed->Array Keyed->SM (Array Keyed):=sortPriv% PySem.Builtin.mergeHi
noncomputable def se(a b:Array Keyed):SM (Array Keyed):=do
 rule "list.sort.merge-hi"
 let tot:=a.size+b.size
 let dn (ot:Array Keyed) (ja jb:Nat):=a.extract 0 ja++b.extract 0 jb++ot.reverse
 let fb (ot:Array Keyed) (ja jb:Nat):=b.extract 0 jb++a.extract 0 ja++ot.reverse
 let mut ja:=a.size-1
 let mut jb:=b.size
 let mut ot:Array Keyed:= #[<-elem' a ja]
 if ja==0 then return dn ot ja jb
 if jb==1 then return fb ot ja jb
 let mut mg:=gallopOf (<-get)
 for _ in[0:tot] do
  let mut ac:=0
  let mut bc:=0
  for _ in[0:tot] do
   let some aw <-lt' (<-elem' b (jb-1)) (<-elem' a (ja-1))|return dn ot ja jb
   if aw then
    ja:=ja-1;ot:=ot.push (<-elem' a ja);ac:=ac+1;bc:=0
    if ja==0 then return dn ot ja jb
    if ac>=mg then break
   else
    jb:=jb-1;ot:=ot.push (<-elem' b jb);bc:=bc+1;ac:=0
    if jb==1 then return fb ot ja jb
    if bc>=mg then break
  rule "list.sort.gallop"
  mg:=mg+1
  for _ in[0:tot] do
   if mg>1 then mg:=mg-1
   (modify fun z=>setG z mg)
   let some kt <-dg false (<-elem' b (jb-1)) a 0 ja (ja-1)|return dn ot ja jb
   let k:=ja-kt
   ac:=k
   if k>0 then
    ot:=ot++(a.extract kt ja).reverse;ja:=kt
    if ja==0 then return dn ot ja jb
   jb:=jb-1;ot:=ot.push (<-elem' b jb)
   if jb==1 then return fb ot ja jb
   let some kt <-dg true (<-elem' a (ja-1)) b 0 jb (jb-1)|return dn ot ja jb
   let k:=jb-kt
   bc:=k
   if k>0 then
    ot:=ot++(b.extract kt jb).reverse;jb:=kt
    if jb==1 then return fb ot ja jb
    if jb==0 then return dn ot ja jb
   ja:=ja-1;ot:=ot.push (<-elem' a ja)
   if ja==0 then return dn ot ja jb
   if ac<7&&bc<7 then break
  mg:=mg+1
  (modify fun z=>setG z mg)
 unsupported "internal:list.sort.merge-bound"
theorem lh(a b:Array Keyed):km a b=se a b:=rfl
structure Mh(a b rv:List Keyed)(i j:Nat):Prop where
 pm:rv.Perm (a.drop i++b.drop j)
 so:rv.Pairwise fun x y=>kn x<=kn y
 le:∀y∈a.take i++b.take j,∀x∈rv,kn y<=kn x
theorem So.take{a:List Keyed}(h:So a)(i:Nat):So (a.take i):=List.Pairwise.sublist (List.take_sublist i a) h
theorem Mh.swap{a b rv:List Keyed}{i j:Nat}(h:Mh a b rv i j):Mh b a rv j i:=
 ⟨h.pm.trans List.perm_append_comm,h.so,fun y hy=>h.le y (by rcases uR.mp hy with v|v;exact vc _ v;exact vq _ v)⟩
theorem Mh.bulkA{a b rv:List Keyed}{i j t:Nat}(h:Mh a b rv i j)(sa:So a)(ht:t<=i)(hl:∀x∈(a.take i).drop t,∀y∈b.take j,kn y<=kn x):Mh a b ((a.take i).drop t++rv) t j:=by
 have st:=sa.take i;have sp:a.take i=a.take t++(a.take i).drop t:=by
  conv=>lhs;rw[<-vL t (a.take i)]
  rw[List.take_take,Nat.min_eq_left ht]
 refine⟨?_,?_,fun y hy x hx=>?_⟩
 ·have e:a.drop t=(a.take i).drop t++a.drop i:=by
   conv=>lhs;rw[<-vL i a]
   rw[List.drop_append];by_cases hi:i<=a.length
   ·rw[vb,Nat.min_eq_left hi,show t-i=0 by omega,List.drop_zero]
   ·rw[wt (show a.length<=i by omega),List.drop_nil]
  rw[e,vg];exact h.pm.append_left _
 ·refine vA.mpr ⟨st.drop t,h.so,fun x hx y hy=>h.le x (vq _ (vY hx)) y hy⟩
 ·rcases uR.mp hx with w|w
  ·rcases uR.mp hy with v|v
   ·rw[sp]at st;exact(vA.mp st).2.2 y v x w
   ·exact hl x w y v
  ·rcases uR.mp hy with v|v
   ·exact h.le y (vq _ (by rw[sp];exact vq _ v)) x w
   ·exact h.le y (vc _ v) x w
theorem Mh.bulkB{a b rv:List Keyed}{i j t:Nat}(h:Mh a b rv i j)(sb:So b)(ht:t<=j)(hl:∀x∈(b.take j).drop t,∀y∈a.take i,kn y<=kn x):Mh a b ((b.take j).drop t++rv) i t:=(h.swap.bulkA sb ht hl).swap
theorem ku{a:List Keyed}{i:Nat}{x:Keyed}(e:a[i]?=some x):(a.take (i+1)).drop i=[x]:=by rw[je e,List.drop_append_of_le_length (by rw[vb];have:=(uS.mp e).1;omega),wt (by rw[vb];omega),List.nil_append]
theorem Mh.pushA{a b rv:List Keyed}{i j:Nat}{x:Keyed}(h:Mh a b rv (i+1) j)(sa:So a)(e:a[i]?=some x)(hl:∀y∈b.take j,kn y<=kn x):Mh a b (x::rv) i j:=by have:=h.bulkA sa (Nat.le_succ i) (fun z hz y hy=>by rw[ku e,uV]at hz;rw[hz];exact hl y hy);rw[ku e]at this;exact this
theorem Mh.pushB{a b rv:List Keyed}{i j:Nat}{x:Keyed}(h:Mh a b rv i (j+1))(sb:So b)(e:b[j]?=some x)(hl:∀y∈a.take i,kn y<=kn x):Mh a b (x::rv) i j:=(h.swap.pushA sb e hl).swap
theorem Mh.fin{a b rv:List Keyed}{i j:Nat}(h:Mh a b rv i j)(sa:So a)(sb:So b)(hc:∀x∈a.take i,∀y∈b.take j,kn x<=kn y):Mgd a b (a.take i++b.take j++rv):=by
 refine⟨?_,?_⟩
 ·have p1:(a.take i++b.take j++rv).Perm ((a.take i++b.take j)++(a.drop i++b.drop j)):=h.pm.append_left _;refine p1.trans ?_;have p2:((a.take i++b.take j)++(a.drop i++b.drop j)).Perm ((a.take i++a.drop i)++(b.take j++b.drop j)):=by
   rw[vg,vg];refine List.Perm.append_left _ ?_;rw[<-vg,<-vg];exact List.perm_append_comm.append_right _
  rw[vL,vL]at p2;exact p2
 ·exact vA.mpr ⟨vA.mpr ⟨sa.take i,sb.take j,hc⟩,h.so,h.le⟩
theorem eP{a:Array Keyed}{j:Nat}:(a.extract 0 j).toList=a.toList.take j:=by rw[cE,List.drop_zero,Nat.sub_zero]
theorem jC{a:Array Keyed}{t j:Nat}:(a.extract t j).toList=(a.toList.take j).drop t:=by rw[cE,List.drop_take]
theorem fj{a b ot:Array Keyed}{jb:Nat}(h:Mh a.toList b.toList ot.toList.reverse 0 jb)(sa:So a.toList)(sb:So b.toList):Mgd a.toList b.toList (a.extract 0 0++b.extract 0 jb++ot.reverse).toList:=by rw[vl,vl,eP,eP,Array.toList_reverse];refine h.fin sa sb fun x hx=>?_;rw[List.take_zero]at hx;cases hx
theorem oN{a b ot:Array Keyed}{ja:Nat}(h:Mh a.toList b.toList ot.toList.reverse ja 0)(sa:So a.toList)(sb:So b.toList):Mgd a.toList b.toList (a.extract 0 ja++b.extract 0 0++ot.reverse).toList:=by rw[vl,vl,eP,eP,Array.toList_reverse];refine h.fin sa sb fun x _ y hy=>?_;rw[List.take_zero]at hy;cases hy
theorem iS{a b ot:Array Keyed}{ja:Nat}(h:Mh a.toList b.toList ot.toList.reverse ja 1)(sa:So a.toList)(sb:So b.toList)(h1:∀x,b.toList[0]?=some x->∀y∈a.toList,kn x<=kn y):
  Mgd a.toList b.toList (b.extract 0 1++a.extract 0 ja++ot.reverse).toList:=by
 rw[vl,vl,eP,eP,Array.toList_reverse];refine(h.swap.fin sb sa fun x hx y hy=>?_).swap;have:b.toList[0]?=some x:=by
  cases hb:b.toList with
  |nil=>rw[hb]at hx;cases hx
  |cons z l=>rw[hb]at hx;have:x=z:=(by simpa using hx);rw[this];rfl
 exact h1 x this y (vT hy)
theorem eJ{a:List Keyed}(sa:So a){i:Nat}{x:Keyed}(e:a[i]?=some x):∀y∈a.take (i+1),kn y<=kn x:=fun y hy=>by
 have:=sa.take (i+1);rw[je e]at this hy;rcases uR.mp hy with z|z
 ·exact(vA.mp this).2.2 y z x (uV.mpr rfl)
 ·rw[uV.mp z];exact wm _
section
variable{prog:Program}{w:World}{A:Around}{E:Value->Shared->Prop}{s:Shared}[ij prog w A E s]
theorem pT{a b:Array Keyed}{st:SortSt}{Q:Array Keyed->SortSt->Prop}(hk:kindOf st=kd0)(ka:∀x∈a.toList,IsK x)(kb:∀x∈b.toList,IsK x)(sa:So a.toList)(sb:So b.toList)(na:1<=a.size)(nb:1<=b.size)
  (h1:∀x,b.toList[0]?=some x->∀y∈a.toList,kn x<=kn y) (h2:∀x∈b.toList,∀y,a.toList[a.size-1]?=some y->kn x<=kn y)
  (h:∀m st',SmG st st'->Mgd a.toList b.toList m.toList->Q m st'):wpS (model prog w) A E s (se a b) Q st:=by
 unfold se;refine uH (wpS_lift (wpAny_rule ⟨rfl,?_⟩));obtain⟨a0,e0,e0',m0⟩:=bE (a:=a) (i:=a.size-1) (by omega);refine uH (av e0 ?_);have M0:Mh a.toList b.toList (#[a0]:Array Keyed).toList.reverse (a.size-1) b.size:=by
  have z:Mh a.toList b.toList [] a.size b.size:=⟨by rw[wt (by rw[uP];omega),wt (by rw[uP];omega)];exact .nil,List.Pairwise.nil,fun _ _ _ hx=>nomatch hx⟩;have e:a.size=a.size-1+1:=by omega
  rw[e]at z;exact z.pushA sa e0' (fun y hy=>h2 y (vT hy) a0 e0')
 generalize hp:a.size-1=p at M0 e0 e0' ⊢;by_cases c1:(p==0)=true
 ·rw[uM c1];have c1':p=0:=by simpa using c1
  subst c1';exact uJ (h _ _ (SmG.refl st) (fj M0 sa sb))
 rw[uK c1];by_cases c2:(b.size==1)=true
 ·rw[uM c2];have c2':b.size=1:=by simpa using c2
  rw[c2']at M0;refine uJ (h _ _ (SmG.refl st) ?_);rw[c2'];exact iS M0 sa sb h1
 rw[uK c2];have c1':¬p=0:=by simpa using c1
 have c2':¬b.size=1:=by simpa using c2
 refine uH (wpS_get ?_);refine uH (wpS_mono (vV (I:=fun x c st'=>SmG st st'/\∃ja jb ot mg,c=(none,ja,jb,ot,mg)/\Mh a.toList b.toList ot.toList.reverse ja jb/\1<=ja/\ja<=a.size/\2<=jb/\jb<=b.size/\x+1<=a.size+b.size-(ja+jb)) (Q:=fun c st'=>SmG st st'/\∃r y,c=(some r,y)/\Mgd a.toList b.toList r.toList) ?step ?fin ⟨SmG.refl st,_,_,_,_,rfl,M0,by omega,by omega,by omega,by omega,by omega⟩) ?post)
 case fin=>rintro c st' ⟨_,ja,jb,ot,mg,_,_,l1,l1',l2,l2',l3⟩;omega
 case post=>rintro c st' ⟨sg,r,y,rfl,hr⟩;exact uJ (h r st' sg hr)
 case step=>
  rintro x c st1 _ hx ⟨sg,ja,jb,ot,mg,rfl,M,l1,l1',l2,l2',l3⟩;dsimp only;refine uH (wpS_mono (vV (I:=fun x1 c st'=>st'=st1/\∃ja1 jb1 ot1 ac bc,c=(none,ja1,jb1,ot1,ac,bc)/\Mh a.toList b.toList ot1.toList.reverse ja1 jb1/\1<=ja1/\ja1<=a.size/\2<=jb1/\jb1<=b.size/\x1+(a.size+b.size-(ja+jb))<=a.size+b.size-(ja1+jb1)) (Q:=fun c st'=>st'=st1/\((∃r y,c=(some r,y)/\Mgd a.toList b.toList r.toList)\/∃ja1 jb1 ot1 ac bc,c=(none,ja1,jb1,ot1,ac,bc)/\Mh a.toList b.toList ot1.toList.reverse ja1 jb1/\1<=ja1/\ja1<=a.size/\2<=jb1/\jb1<=b.size/\a.size+b.size-(ja+jb)<a.size+b.size-(ja1+jb1))) ?step1 ?fin1 ⟨rfl,ja,jb,ot,0,0,rfl,M,l1,l1',l2,l2',by omega⟩) ?post1)
  case fin1=>rintro c st' ⟨_,ja1,jb1,ot1,ac,bc,_,_,m1,m1',m2,m2',m3⟩;omega
  case step1=>
   rintro x1 c st' _ hx1 ⟨rfl,ja1,jb1,ot1,ac,bc,rfl,M1,m1,m1',m2,m2',m3⟩;obtain⟨p1,rfl⟩:∃p1,ja1=p1+1:=⟨ja1-1,by omega⟩;obtain⟨q1,rfl⟩:∃q1,jb1=q1+1:=⟨jb1-1,by omega⟩;simp only[Nat.add_sub_cancel];obtain⟨xb,eb,eb',mb⟩:=bE (a:=b) (show q1<b.size by omega);obtain⟨xa,ea,ea',ma⟩:=bE (a:=a) (show p1<a.size by omega);refine uH (av eb (uH (av ea (uH (fo (sg.kd.trans hk) (kb _ mb) (ka _ ma) ?_)))));dsimp only;by_cases aw:kn xb<kn xa
   ·rw[ve aw,uM rfl];refine uH (av ea ?_);have M2:Mh a.toList b.toList (ot1.push xa).toList.reverse p1 (q1+1):=by
     rw[vm,vP];exact M1.pushA sa ea' fun y hy=>Int.le_of_lt (Int.lt_of_le_of_lt (eJ sb eb' y hy) aw)
    by_cases d1:(p1==0)=true
    ·rw[uM d1];have d1':p1=0:=(by simpa using d1);subst d1';exact uJ ⟨rfl,.inl ⟨_,_,rfl,fj M2 sa sb⟩⟩
    rw[uK d1];have d1':¬p1=0:=(by simpa using d1);by_cases d2:ac+1>=mg
    ·rw[uM d2];exact uJ ⟨rfl,.inr ⟨_,_,_,_,_,rfl,M2,by omega,by omega,m2,m2',by omega⟩⟩
    ·rw[uK d2];exact uJ ⟨rfl,_,_,_,_,_,rfl,M2,by omega,by omega,m2,m2',by omega⟩
   ·rw[vh aw,uK (by decide)];refine uH (av eb ?_);have M2:Mh a.toList b.toList (ot1.push xb).toList.reverse (p1+1) q1:=by
     rw[vm,vP];exact M1.pushB sb eb' fun y hy=>we (eJ sa ea' y hy) (Int.not_lt.mp aw)
    by_cases d1:(q1==1)=true
    ·rw[uM d1];have d1':q1=1:=(by simpa using d1);subst d1';exact uJ ⟨rfl,.inl ⟨_,_,rfl,iS M2 sa sb h1⟩⟩
    rw[uK d1];have d1':¬q1=1:=(by simpa using d1);by_cases d2:bc+1>=mg
    ·rw[uM d2];exact uJ ⟨rfl,.inr ⟨_,_,_,_,_,rfl,M2,m1,m1',by omega,by omega,by omega⟩⟩
    ·rw[uK d2];exact uJ ⟨rfl,_,_,_,_,_,rfl,M2,m1,m1',by omega,by omega,by omega⟩
  case post1=>
   rintro c st' ⟨rfl,⟨r,y,rfl,hr⟩|⟨ja1,jb1,ot1,ac,bc,rfl,M1,m1,m1',m2,m2',m3⟩⟩
   ·exact uJ ⟨sg,r,_,rfl,hr⟩
   dsimp only;refine uH (wpS_lift (wpAny_rule ⟨rfl,?_⟩));refine uH (wpS_mono (vV (I:=fun x2 c st'=>SmG st st'/\∃ja2 jb2 ot2 mg2 ac2 bc2,c=(none,ja2,jb2,ot2,mg2,ac2,bc2)/\Mh a.toList b.toList ot2.toList.reverse ja2 jb2/\1<=ja2/\ja2<=a.size/\2<=jb2/\jb2<=b.size/\x2+(a.size+b.size-(ja1+jb1))<=a.size+b.size-(ja2+jb2)) (Q:=fun c st'=>SmG st st'/\((∃r y,c=(some r,y)/\Mgd a.toList b.toList r.toList)\/∃ja2 jb2 ot2 mg2 ac2 bc2,c=(none,ja2,jb2,ot2,mg2,ac2,bc2)/\Mh a.toList b.toList ot2.toList.reverse ja2 jb2/\1<=ja2/\ja2<=a.size/\2<=jb2/\jb2<=b.size/\a.size+b.size-(ja1+jb1)<=a.size+b.size-(ja2+jb2))) ?step2 ?fin2 ⟨sg,ja1,jb1,ot1,_,_,_,rfl,M1,m1,m1',m2,m2',by omega⟩) ?post2)
   case fin2=>rintro c st' ⟨_,ja1,jb1,ot1,mg2,ac,bc,_,_,m1,m1',m2,m2',m3⟩;omega
   case post2=>
    rintro c st2 ⟨sg2,⟨r,y,rfl,hr⟩|⟨ja2,jb2,ot2,mg2,ac2,bc2,rfl,M2,o1,o1',o2,o2',o3⟩⟩
    ·exact uJ ⟨sg2,r,_,rfl,hr⟩
    dsimp only;refine uH (wpS_modify ?_);exact uJ ⟨sg2.g _,_,_,_,_,rfl,M2,o1,o1',o2,o2',by omega⟩
   case step2=>
    rintro x2 c st2 _ hx2 ⟨sg2,ja2,jb2,ot2,mg2,ac2,bc2,rfl,M2,o1,o1',o2,o2',o3⟩;obtain⟨p2,rfl⟩:∃p2,ja2=p2+1:=⟨ja2-1,by omega⟩;obtain⟨q2,rfl⟩:∃q2,jb2=q2+1:=⟨jb2-1,by omega⟩;simp only[Nat.add_sub_cancel];obtain⟨xb,eb,eb',mb⟩:=bE (a:=b) (show q2<b.size by omega);rcases wa 1 mg2 with hmg|hmg
    all_goals
     first|rw[uM hmg]|rw[uK (Nat.not_lt.mpr hmg)]
     refine uH (wpS_modify ?_);refine uH (av eb ?_);refine uH (c7 (a.toList.take (p2+1)) (sg2.kd.trans hk) (kb _ mb) (fun x hx=>ka x (vT hx)) (by rw[vb,uP];omega) (fun i hi=>?_) (sa.take (p2+1)) (by omega) fun ks k1 k2 k3=>?_)
     ·rw[wz hi,uY,Nat.zero_add]
     dsimp only;have hbulk:Mh a.toList b.toList (ot2++(a.extract ks (p2+1)).reverse).toList.reverse ks (q2+1):=by rw[vl,Array.toList_reverse,vP,List.reverse_reverse,jC];refine M2.bulkA sa k1 fun x hx y hy=>?_;have z:=k3 x hx;rw[uK (by decide)]at z;exact Int.le_of_lt (Int.lt_of_le_of_lt (eJ sb eb' y hy) z)
     have hrest:∀y∈a.toList.take ks,kn y<=kn xb:=fun y hy=>by have hy':y∈(a.toList.take (p2+1)).take ks:=(by rw[List.take_take,Nat.min_eq_left k1];exact hy);have z:=k2 y hy';rw[uK (by decide)]at z;exact z
     rcases wa 0 (p2+1-ks)with hk0|hk0
     all_goals first|rw[uM hk0]|rw[uK (Nat.not_lt.mpr hk0)]
     ·by_cases d1:(ks==0)=true
      ·rw[uM d1];have d1':ks=0:=(by simpa using d1);subst d1';exact uJ ⟨sg2.g _,.inl ⟨_,_,rfl,fj hbulk sa sb⟩⟩
      rw[uK d1];have d1':¬ks=0:=(by simpa using d1);obtain⟨p3,rfl⟩:∃p3,ks=p3+1:=⟨ks-1,by omega⟩;simp only[Nat.add_sub_cancel];have o4:p3+1<=a.size:=(by omega);have o5:x2+(a.size+b.size-(ja1+jb1))<=a.size+b.size-(p3+1+(q2+1)):=(by omega);generalize ot2++(a.extract (p3+1) (p2+1)).reverse=ot3 at hbulk ⊢;refine uH (av eb ?_);have M3:Mh a.toList b.toList (ot3.push xb).toList.reverse (p3+1) q2:=by rw[vm,vP];exact hbulk.pushB sb eb' hrest
      by_cases d3:(q2==1)=true
      ·rw[uM d3];have d3':q2=1:=(by simpa using d3);subst d3';exact uJ ⟨sg2.g _,.inl ⟨_,_,rfl,iS M3 sa sb h1⟩⟩
      rw[uK d3];have d3':¬q2=1:=(by simpa using d3);obtain⟨xa3,ea3,ea3',ma3⟩:=bE (a:=a) (show p3<a.size by omega);refine uH (av ea3 ?_);refine uH (c7 (b.toList.take q2) (sg2.kd.trans hk) (ka _ ma3) (fun x hx=>kb x (vT hx)) (by rw[vb,uP];omega) (fun i hi=>?_) (sb.take q2) (by omega) fun kt k1' k2' k3'=>?_)
      ·rw[wz hi,uY,Nat.zero_add]
      dsimp only;have hbulk4:Mh a.toList b.toList (ot3.push xb++(b.extract kt q2).reverse).toList.reverse (p3+1) kt:=by rw[vl,Array.toList_reverse,vP,List.reverse_reverse,jC];refine M3.bulkB sb k1' fun x hx y hy=>?_;have z:=k3' x hx;rw[uM rfl]at z;exact we (eJ sa ea3' y hy) z
      have hrest4:∀xa,a.toList[p3]?=some xa->∀y∈b.toList.take kt,kn y<=kn xa:=fun xa exa y hy=>by rw[ea3']at exa;cases exa;have hy':y∈(b.toList.take q2).take kt:=(by rw[List.take_take,Nat.min_eq_left k1'];exact hy);have z:=k2' y hy';rw[uM rfl]at z;exact Int.le_of_lt z
      rcases wa 0 (q2-kt)with hk1|hk1
      all_goals first|rw[uM hk1]|rw[uK (Nat.not_lt.mpr hk1)]
      ·by_cases d4:(kt==1)=true
       ·rw[uM d4];have d4':kt=1:=(by simpa using d4);subst d4';exact uJ ⟨sg2.g _,.inl ⟨_,_,rfl,iS hbulk4 sa sb h1⟩⟩
       rw[uK d4];have d4':¬kt=1:=(by simpa using d4);by_cases d6:(kt==0)=true
       ·rw[uM d6];have d6':kt=0:=(by simpa using d6);subst d6';exact uJ ⟨sg2.g _,.inl ⟨_,_,rfl,oN hbulk4 sa sb⟩⟩
       rw[uK d6];have d6':¬kt=0:=(by simpa using d6);have o2':2<=kt:=(by omega);have ob':kt<=b.size:=(by omega);have o3'':x2+1+ja1*0+(a.size+b.size-(ja1+jb1))<=a.size+b.size-(p3+1+kt):=(by omega);generalize ot3.push xb++(b.extract kt q2).reverse=ot4 at hbulk4 ⊢;generalize kt=jb4 at hbulk4 hrest4 o2' ob' o3'' ⊢;obtain⟨xa,ea,ea',ma⟩:=bE (a:=a) (show p3<a.size by omega);refine uH (av ea ?_);have M5:Mh a.toList b.toList (ot4.push xa).toList.reverse p3 jb4:=by rw[vm,vP];exact hbulk4.pushA sa ea' (hrest4 xa ea')
       by_cases d5:(p3==0)=true
       ·rw[uM d5];have d5':p3=0:=(by simpa using d5);subst d5';exact uJ ⟨sg2.g _,.inl ⟨_,_,rfl,fj M5 sa sb⟩⟩
       rw[uK d5];have d5':¬p3=0:=(by simpa using d5);split
       ·exact uJ ⟨sg2.g _,.inr ⟨_,_,_,_,_,_,rfl,M5,by omega,by omega,o2',by omega,by omega⟩⟩
       ·exact uJ ⟨sg2.g _,_,_,_,_,_,_,rfl,M5,by omega,by omega,o2',by omega,by omega⟩
      ·have k0':kt=q2:=(by omega);subst k0';have o2':2<=kt:=(by omega);have ob':kt<=b.size:=(by omega);have o3'':x2+1+ja1*0+(a.size+b.size-(ja1+jb1))<=a.size+b.size-(p3+1+kt):=(by omega);clear hbulk4;have hbulk4:=M3;generalize ot3.push xb=ot4 at hbulk4 ⊢;generalize kt=jb4 at hbulk4 hrest4 o2' ob' o3'' ⊢;obtain⟨xa,ea,ea',ma⟩:=bE (a:=a) (show p3<a.size by omega);refine uH (av ea ?_);have M5:Mh a.toList b.toList (ot4.push xa).toList.reverse p3 jb4:=by
        rw[vm,vP];exact hbulk4.pushA sa ea' (hrest4 xa ea')
       by_cases d5:(p3==0)=true
       ·rw[uM d5];have d5':p3=0:=(by simpa using d5);subst d5';exact uJ ⟨sg2.g _,.inl ⟨_,_,rfl,fj M5 sa sb⟩⟩
       rw[uK d5];have d5':¬p3=0:=(by simpa using d5);split
       ·exact uJ ⟨sg2.g _,.inr ⟨_,_,_,_,_,_,rfl,M5,by omega,by omega,o2',by omega,by omega⟩⟩
       ·exact uJ ⟨sg2.g _,_,_,_,_,_,_,rfl,M5,by omega,by omega,o2',by omega,by omega⟩
     ·have k0:ks=p2+1:=(by omega);subst k0;have o4:p2+1<=a.size:=(by omega);have o5:x2+(a.size+b.size-(ja1+jb1))<=a.size+b.size-(p2+1+(q2+1)):=o3;clear hbulk;have hbulk:=M2;generalize ot2=ot3 at hbulk ⊢;generalize p2=p3 at hbulk hrest o4 o5 ⊢;refine uH (av eb ?_);have M3:Mh a.toList b.toList (ot3.push xb).toList.reverse (p3+1) q2:=by
       rw[vm,vP];exact hbulk.pushB sb eb' hrest
      by_cases d3:(q2==1)=true
      ·rw[uM d3];have d3':q2=1:=(by simpa using d3);subst d3';exact uJ ⟨sg2.g _,.inl ⟨_,_,rfl,iS M3 sa sb h1⟩⟩
      rw[uK d3];have d3':¬q2=1:=(by simpa using d3);obtain⟨xa3,ea3,ea3',ma3⟩:=bE (a:=a) (show p3<a.size by omega);refine uH (av ea3 ?_);refine uH (c7 (b.toList.take q2) (sg2.kd.trans hk) (ka _ ma3) (fun x hx=>kb x (vT hx)) (by rw[vb,uP];omega) (fun i hi=>?_) (sb.take q2) (by omega) fun kt k1' k2' k3'=>?_)
      ·rw[wz hi,uY,Nat.zero_add]
      dsimp only;have hbulk4:Mh a.toList b.toList (ot3.push xb++(b.extract kt q2).reverse).toList.reverse (p3+1) kt:=by rw[vl,Array.toList_reverse,vP,List.reverse_reverse,jC];refine M3.bulkB sb k1' fun x hx y hy=>?_;have z:=k3' x hx;rw[uM rfl]at z;exact we (eJ sa ea3' y hy) z
      have hrest4:∀xa,a.toList[p3]?=some xa->∀y∈b.toList.take kt,kn y<=kn xa:=fun xa exa y hy=>by rw[ea3']at exa;cases exa;have hy':y∈(b.toList.take q2).take kt:=(by rw[List.take_take,Nat.min_eq_left k1'];exact hy);have z:=k2' y hy';rw[uM rfl]at z;exact Int.le_of_lt z
      rcases wa 0 (q2-kt)with hk1|hk1
      all_goals first|rw[uM hk1]|rw[uK (Nat.not_lt.mpr hk1)]
      ·by_cases d4:(kt==1)=true
       ·rw[uM d4];have d4':kt=1:=(by simpa using d4);subst d4';exact uJ ⟨sg2.g _,.inl ⟨_,_,rfl,iS hbulk4 sa sb h1⟩⟩
       rw[uK d4];have d4':¬kt=1:=(by simpa using d4);by_cases d6:(kt==0)=true
       ·rw[uM d6];have d6':kt=0:=(by simpa using d6);subst d6';exact uJ ⟨sg2.g _,.inl ⟨_,_,rfl,oN hbulk4 sa sb⟩⟩
       rw[uK d6];have d6':¬kt=0:=(by simpa using d6);have o2':2<=kt:=(by omega);have ob':kt<=b.size:=(by omega);have o3'':x2+1+ja1*0+(a.size+b.size-(ja1+jb1))<=a.size+b.size-(p3+1+kt):=(by omega);generalize ot3.push xb++(b.extract kt q2).reverse=ot4 at hbulk4 ⊢;generalize kt=jb4 at hbulk4 hrest4 o2' ob' o3'' ⊢;obtain⟨xa,ea,ea',ma⟩:=bE (a:=a) (show p3<a.size by omega);refine uH (av ea ?_);have M5:Mh a.toList b.toList (ot4.push xa).toList.reverse p3 jb4:=by rw[vm,vP];exact hbulk4.pushA sa ea' (hrest4 xa ea')
       by_cases d5:(p3==0)=true
       ·rw[uM d5];have d5':p3=0:=(by simpa using d5);subst d5';exact uJ ⟨sg2.g _,.inl ⟨_,_,rfl,fj M5 sa sb⟩⟩
       rw[uK d5];have d5':¬p3=0:=(by simpa using d5);split
       ·exact uJ ⟨sg2.g _,.inr ⟨_,_,_,_,_,_,rfl,M5,by omega,by omega,o2',by omega,by omega⟩⟩
       ·exact uJ ⟨sg2.g _,_,_,_,_,_,_,rfl,M5,by omega,by omega,o2',by omega,by omega⟩
      ·have k0':kt=q2:=(by omega);subst k0';have o2':2<=kt:=(by omega);have ob':kt<=b.size:=(by omega);have o3'':x2+1+ja1*0+(a.size+b.size-(ja1+jb1))<=a.size+b.size-(p3+1+kt):=(by omega);clear hbulk4;have hbulk4:=M3;generalize ot3.push xb=ot4 at hbulk4 ⊢;generalize kt=jb4 at hbulk4 hrest4 o2' ob' o3'' ⊢;obtain⟨xa,ea,ea',ma⟩:=bE (a:=a) (show p3<a.size by omega);refine uH (av ea ?_);have M5:Mh a.toList b.toList (ot4.push xa).toList.reverse p3 jb4:=by
        rw[vm,vP];exact hbulk4.pushA sa ea' (hrest4 xa ea')
       by_cases d5:(p3==0)=true
       ·rw[uM d5];have d5':p3=0:=(by simpa using d5);subst d5';exact uJ ⟨sg2.g _,.inl ⟨_,_,rfl,fj M5 sa sb⟩⟩
       rw[uK d5];have d5':¬p3=0:=(by simpa using d5);split
       ·exact uJ ⟨sg2.g _,.inr ⟨_,_,_,_,_,_,rfl,M5,by omega,by omega,o2',by omega,by omega⟩⟩
       ·exact uJ ⟨sg2.g _,_,_,_,_,_,_,rfl,M5,by omega,by omega,o2',by omega,by omega⟩
end
structure SA(a₀:Array Keyed)(z:SortSt)(lo:Nat)(st:SortSt):Prop where
 perm:(arrOf st).Perm a₀
 kind:kindOf st=kd0
 failed:failedOf st=none
 pend:pendingOf st=pendingOf z
 keep:∀k,k<lo->(arrOf st)[k]?=(arrOf z)[k]?
theorem SA.size{a₀:Array Keyed}{z:SortSt}{lo:Nat}{st:SortSt}(h:SA a₀ z lo st):(arrOf st).size=a₀.size:=h.perm.size_eq
theorem SA.at{a₀:Array Keyed}{z:SortSt}{lo:Nat}{st:SortSt}(h:SA a₀ z lo st)(h0:fP a₀){i:Nat}(hi:i<a₀.size):∃p,(arrOf st)[i]?=some p/\IsK p/\kn p=K (arrOf st) i:=by
 have hi':i<(arrOf st).size:=by rw[h.size];exact hi
 have hm:(arrOf st)[i]∈a₀.toList:=(wN.mp h.perm).mem_iff.mp (by simp);have e:(arrOf st)[i]?=some (arrOf st)[i]:=getElem?_pos _ i hi';refine⟨_,e,h0 _ hm,?_⟩;unfold K;rw[e]
def bU(xs:Array Keyed)(lo n:Nat):Prop:=∀i j,i<=j->j<n->K xs (lo+i)<=K xs (lo+j)
def lS(xs:Array Keyed)(lo n:Nat):Prop:=∀i j,i<=j->j<n->K xs (lo+j)<=K xs (lo+i)
theorem SA.mir{a₀:Array Keyed}{z:SortSt}{lo:Nat}{st:SortSt}(h:SA a₀ z lo st){i j d:Nat}(hi:lo<=i)(hj:j<=a₀.size)(hd:2*d<=j-i):SA a₀ z lo (setArr st (mirror (arrOf st) i j d)):=by refine⟨(mirror_perm _ _ _ _).trans h.perm,h.kind,h.failed,h.pend,fun k hk=>?_⟩;show(mirror (arrOf st) i j d)[k]?=_;rw[getElem?_mirror (by rw[h.size];exact hj) d hd,uK (by omega)];exact h.keep k hk
section
variable{prog:Program}{w:World}{A:Around}{E:Value->Shared->Prop}{s:Shared}[ij prog w A E s]{a₀:Array Keyed}{z:SortSt}{lo:Nat}
theorem fq{st:SortSt}{i j:Nat}{Q:Option Bool->SortSt->Prop}(hB:SA a₀ z lo st)(h0:fP a₀)(hi:i<a₀.size)(hj:j<a₀.size)
  (h:Q (some (decide (K (arrOf st) i<K (arrOf st) j))) st):wpS (model prog w) A E s (ltAt' i j) Q st:=by
 obtain⟨p,e1,k1,n1⟩:=hB.at h0 hi;obtain⟨q,e2,k2,n2⟩:=hB.at h0 hj;rw[ltAt'_eq];refine uH (wpS_get ?_);show wpS _ _ _ _ (do let x <-elem' (arrOf st) i;let y <-elem' (arrOf st) j;lt' x y) Q st;rw[elem'_eq,elem'_eq,e1,e2];refine uH (uJ (uH (uJ ?_)));refine fo hB.kind k1 k2 ?_;rw[n1,n2];exact h
theorem kK{st:SortSt}{x0 nrem:Nat}{f:Nat->Option (Option Nat)×Nat->SM (ForInStep (Option (Option Nat)×Nat))}{k:Nat->Option Bool->SM (ForInStep (Option (Option Nat)×Nat))}{Q:Option (Option Nat)×Nat->SortSt->Prop}
  (hf:∀x n,f x (none,n)=ltAt' (lo+n) (lo+n-1)>>= k n) (hk:∀n b,k n (some b)=if b=true then pure (ForInStep.done (none,n))else pure (ForInStep.yield (none,n+1)))
  (h0:fP a₀) (hB:SA a₀ z lo st) (hn:lo+nrem<=a₀.size) (h1:1<=x0) (h2:x0<=nrem) (hs:bU (arrOf st) lo x0)
  (h:∀n,x0<=n->n<=nrem->bU (arrOf st) lo n->(n=nrem\/K (arrOf st) (lo+n)<K (arrOf st) (lo+n-1))->Q (none,n) st):wpS (model prog w) A E s (forIn [x0:nrem] (none,x0) f) Q st:=by
 refine vV (I:=fun x c st'=>st'=st/\c=(none,x)/\bU (arrOf st) lo x) ?step ?fin ⟨rfl,rfl,hs⟩
 case fin=>rintro c st' ⟨rfl,rfl,hs'⟩;rw[show max x0 nrem=nrem by omega]at hs' ⊢;exact h nrem h2 (uW _) hs' (.inl rfl)
 case step=>
  rintro x c st' hax hxn ⟨rfl,rfl,hs'⟩;rw[hf];refine uH (fq hB h0 (by omega) (by omega) ?_);rw[hk];by_cases hless:K (arrOf st') (lo+x)<K (arrOf st') (lo+x-1)
  ·rw[ve hless,uM rfl];exact uJ (h x hax (by omega) hs' (.inr hless))
  ·rw[vh hless,uK (by decide)];refine uJ ⟨rfl,rfl,fun i j hij hj=>?_⟩;by_cases hjx:j<x
   ·exact hs' i j hij hjx
   ·have hj':j=x:=(by omega);subst hj';by_cases hi':i=j
    ·subst hi';exact wm _
    ·have z1:=hs' i (j-1) (by omega) (by omega);rw[show lo+(j-1)=lo+j-1 by omega]at z1;exact we z1 (Int.not_lt.mp hless)
theorem pX{st:SortSt}{nrem:Nat}{Q:Option Nat->SortSt->Prop}(h0:fP a₀)(hB:SA a₀ z lo st)(hn:lo+nrem<=a₀.size)(h1:1<=nrem)
  (h:∀m st',SA a₀ z lo st'->1<=m->m<=nrem->bU (arrOf st') lo m->Q (some m) st'):wpS (model prog w) A E s (countRun' lo nrem) Q st:=by
 rw[countRun'_eq];have one:bU (arrOf st) lo 1:=fun i j hij hj=>by
  have e:i=j:=by omega
  subst e;exact wm _
 refine uH (kK (fun _ _=>rfl) (fun _ _=>rfl) h0 hB hn (uW 1) h1 one fun n n1 n2 sn hor=>?_);dsimp only;by_cases c1:(n==nrem)=true
 ·rw[uM c1];exact uJ (h n st hB n1 n2 sn)
 rw[uK c1];have c1':¬n=nrem:=by simpa using c1
 have hlt:=hor.resolve_left c1';have n1r:n+1<=nrem:=by omega
 refine'(fun(tail:∀stD:SortSt,SA a₀ z lo stD->lS (arrOf stD) lo (n+1)->wpS (model prog w) A E s _ Q stD)=>?G) ?T
 case G=>
  by_cases hgt:n>1
  ·rw[uM hgt];refine uH (fq hB h0 (by omega) (by omega) ?_);dsimp only;by_cases hrose:K (arrOf st) lo<K (arrOf st) (lo+n-1)
   ·rw[ve hrose,uM rfl];exact uJ (h n st hB n1 n2 sn)
   rw[vh hrose,uK (by decide)];have hall:∀k,lo<=k->k<lo+n->K (arrOf st) k=K (arrOf st) (lo+n-1):=fun k g1 g2=>by have a1:=sn 0 (k-lo) (by omega) (by omega);have a2:=sn (k-lo) (n-1) (by omega) (by omega);rw[show lo+0=lo by omega,show lo+(k-lo)=k by omega]at a1;rw[show lo+(k-lo)=k by omega,show lo+(n-1)=lo+n-1 by omega]at a2;omega
   refine uH (wpS_reverse ?_);have hD:=hB.mir (i:=lo) (j:=lo+n) (d:=(lo+n-lo) / 2) (uW _) (by omega) (by omega);have sd:lS (arrOf (setArr st (mirror (arrOf st) lo (lo+n) ((lo+n-lo) / 2)))) lo (n+1):=fun i j hij hj=>by
    show K (mirror _ _ _ _) _<=K (mirror _ _ _ _) _;rw[K_mirror_equal (by rw[hB.size];omega) hall,K_mirror_equal (by rw[hB.size];omega) hall];by_cases hjn:j<n
    ·rw[hall (lo+i) (by omega) (by omega),hall (lo+j) (by omega) (by omega)];exact wm _
    ·have hj':j=n:=(by omega);subst hj';by_cases hi':i=j
     ·subst hi';exact wm _
     ·rw[hall (lo+i) (by omega) (by omega)];exact Int.le_of_lt hlt
   generalize (setArr st (mirror (arrOf st) lo (lo+n) ((lo+n-lo) / 2)))=stD at hD sd ⊢;exact tail _ hD sd
  ·rw[uK hgt];have e1:n=1:=(by omega);have hD:=hB;have sd:lS (arrOf st) lo (n+1):=fun i j hij hj=>by
    by_cases hi':i=j
    ·subst hi';exact wm _
    ·have hi0:i=0:=(by omega);have hj1:j=1:=(by omega);subst hi0;subst hj1;subst e1;exact Int.le_of_lt hlt
   generalize st=stD at hD sd ⊢;exact tail _ hD sd
 case T=>
  intro stD hD sd;refine uH (wpS_lift (wpAny_rule ⟨rfl,?_⟩));refine uH (wpS_mono (vV (I:=fun x c st'=>∃neq,c=(none,x,neq)/\SA a₀ z lo st'/\lS (arrOf st') lo x/\neq+1<=x/\∀i,x-(neq+1)<=i->i<x->K (arrOf st') (lo+i)=K (arrOf st') (lo+x-1)) (Q:=fun c st'=>∃m neq,c=(none,m,neq)/\n+1<=m/\m<=nrem/\SA a₀ z lo st'/\lS (arrOf st') lo m/\neq+1<=m/\∀i,m-(neq+1)<=i->i<m->K (arrOf st') (lo+i)=K (arrOf st') (lo+m-1)) ?dstep ?dfin ⟨0,rfl,hD,sd,by omega,fun i g1 g2=>by congr 1;omega⟩) ?dpost)
  case dfin=>rintro c st' ⟨neq,rfl,b1,b2,b3,b4⟩;rw[show max (n+1) nrem=nrem by omega]at b2 b3 b4 ⊢;exact⟨nrem,neq,rfl,by omega,uW _,b1,b2,b3,b4⟩
  case dstep=>
   rintro x c st' hax hxn ⟨neq,rfl,b1,b2,b3,b4⟩;dsimp only;refine uH (fq b1 h0 (by omega) (by omega) ?_);dsimp only;have heq:∀k,lo+x-(neq+1)<=k->k<lo+x->K (arrOf st') k=K (arrOf st') (lo+x-1):=fun k g1 g2=>by have:=b4 (k-lo) (by omega) (by omega);rw[show lo+(k-lo)=k by omega]at this;exact this
   by_cases hless:K (arrOf st') (lo+x)<K (arrOf st') (lo+x-1)
   ·rw[ve hless,uM rfl];have step1:∀xs:Array Keyed,(∀k,K xs k=K (arrOf st') k)->lS xs lo (x+1):=by
     intro xs hk i j hij hj;rw[hk,hk];by_cases hjx:j<x
     ·exact b2 i j hij hjx
     ·have hj':j=x:=(by omega);subst hj';by_cases hi':i=j
      ·subst hi';exact wm _
      ·have z1:=b2 i (j-1) (by omega) (by omega);rw[show lo+(j-1)=lo+j-1 by omega]at z1;exact we (Int.le_of_lt hless) z1
    by_cases hneq:neq>0
    ·rw[uM hneq];refine uH (wpS_reverse (uJ ⟨0,rfl,b1.mir (by omega) (by omega) (by omega),step1 _ (K_mirror_equal (by rw[b1.size];omega) heq),by omega,fun i g1 g2=>by congr 1;omega⟩))
    ·rw[uK hneq];exact uJ ⟨0,rfl,b1,step1 _ (fun _=>rfl),by omega,fun i g1 g2=>by congr 1;omega⟩
   ·rw[vh hless,uK (by decide)];refine uH (fq b1 h0 (by omega) (by omega) ?_);dsimp only;by_cases hlarger:K (arrOf st') (lo+x-1)<K (arrOf st') (lo+x)
    ·rw[ve hlarger,uM rfl];exact uJ ⟨x,neq,rfl,hax,by omega,b1,b2,b3,b4⟩
    ·rw[vh hlarger,uK (by decide)];have heqx:K (arrOf st') (lo+x)=K (arrOf st') (lo+x-1):=(by omega);refine uJ ⟨neq+1,rfl,b1,fun i j hij hj=>?_,by omega,fun i g1 g2=>?_⟩
     ·by_cases hjx:j<x
      ·exact b2 i j hij hjx
      ·have hj':j=x:=(by omega);subst hj';by_cases hi':i=j
       ·subst hi';exact wm _
       ·have z1:=b2 i (j-1) (by omega) (by omega);rw[show lo+(j-1)=lo+j-1 by omega]at z1;rw[heqx];exact z1
     ·rw[show lo+(x+1)-1=lo+x by omega];by_cases hix:i=x
      ·subst hix;rfl
      ·rw[heqx];exact b4 i (by omega) (by omega)
  case dpost=>
   rintro c st3 ⟨m,neq,rfl,m1,m2,b1,b2,b3,b4⟩;dsimp only;have heq:∀k,lo+m-(neq+1)<=k->k<lo+m->K (arrOf st3) k=K (arrOf st3) (lo+m-1):=fun k g1 g2=>by have:=b4 (k-lo) (by omega) (by omega);rw[show lo+(k-lo)=k by omega]at this;exact this
   by_cases hneq:neq>0
   ·rw[uM hneq];refine uH (wpS_reverse ?_);have hD4:=b1.mir (i:=lo+m-(neq+1)) (j:=lo+m) (d:=(lo+m-(lo+m-(neq+1))) / 2) (by omega) (by omega) (by omega);have sd4:lS (arrOf (setArr st3 (mirror (arrOf st3) (lo+m-(neq+1)) (lo+m) ((lo+m-(lo+m-(neq+1))) / 2)))) lo m:=fun i j hij hj=>by
     show K (mirror _ _ _ _) _<=K (mirror _ _ _ _) _;rw[K_mirror_equal (by rw[b1.size];omega) heq,K_mirror_equal (by rw[b1.size];omega) heq];exact b2 i j hij hj
    generalize (setArr st3 (mirror (arrOf st3) (lo+m-(neq+1)) (lo+m) ((lo+m-(lo+m-(neq+1))) / 2)))=st4 at hD4 sd4 ⊢;have hD5:=hD4.mir (i:=lo) (j:=lo+m) (d:=(lo+m-lo) / 2) (uW _) (by omega) (by omega);refine uH (wpS_reverse ?_);have up5:bU (mirror (arrOf st4) lo (lo+m) ((lo+m-lo) / 2)) lo m:=fun i j hij hj=>by rw[K_mirror (by rw[hD4.size];omega),K_mirror (by rw[hD4.size];omega),uM (by omega),uM (by omega)];have z1:=sd4 (m-1-j) (m-1-i) (by omega) (by omega);rw[show lo+(lo+m)-1-(lo+i)=lo+(m-1-i) by omega,show lo+(lo+m)-1-(lo+j)=lo+(m-1-j) by omega];exact z1
    refine uH (kK (fun _ _=>rfl) (fun _ _=>rfl) h0 hD5 hn (by omega) m2 up5 fun n5 q1 q2 q3 _=>?_);exact uJ (h n5 _ hD5 (by omega) q2 q3)
   ·rw[uK hneq];have hD4:=b1;have sd4:=b2;generalize st3=st4 at hD4 sd4 ⊢;have hD5:=hD4.mir (i:=lo) (j:=lo+m) (d:=(lo+m-lo) / 2) (uW _) (by omega) (by omega);refine uH (wpS_reverse ?_);have up5:bU (mirror (arrOf st4) lo (lo+m) ((lo+m-lo) / 2)) lo m:=fun i j hij hj=>by
     rw[K_mirror (by rw[hD4.size];omega),K_mirror (by rw[hD4.size];omega),uM (by omega),uM (by omega)];have z1:=sd4 (m-1-j) (m-1-i) (by omega) (by omega);rw[show lo+(lo+m)-1-(lo+i)=lo+(m-1-i) by omega,show lo+(lo+m)-1-(lo+j)=lo+(m-1-j) by omega];exact z1
    refine uH (kK (fun _ _=>rfl) (fun _ _=>rfl) h0 hD5 hn (by omega) m2 up5 fun n5 q1 q2 q3 _=>?_);exact uJ (h n5 _ hD5 (by omega) q2 q3)
theorem SA.bub{st:SortSt}(h:SA a₀ z lo st){src d:Nat}(hs:src<a₀.size)(hd:lo+d<=src):SA a₀ z lo (setArr st (bubble (arrOf st) src d)):=by refine⟨(bubble_perm _ _ _).trans h.perm,h.kind,h.failed,h.pend,fun k hk=>?_⟩;show(bubble (arrOf st) src d)[k]?=_;rw[getElem?_bubble (by rw[h.size];exact hs) d (by omega),uK (by omega),uK (by omega)];exact h.keep k hk
theorem mU{st:SortSt}{n ok:Nat}{Q:Bool->SortSt->Prop}(h0:fP a₀)(hn:lo+n<=a₀.size)(hok:ok<=n)(hB:SA a₀ z lo st)(hs:bU (arrOf st) lo ok)
  (h:∀st',SA a₀ z lo st'->bU (arrOf st') lo n->Q true st'):wpS (model prog w) A E s (binarySort' lo n ok) Q st:=by
 rw[binarySort'_eq];refine uH (wpS_mono (vV (I:=fun k c st'=>c=(none,())/\SA a₀ z lo st'/\bU (arrOf st') lo (min k n)) (Q:=fun c st'=>c=(none,())/\SA a₀ z lo st'/\bU (arrOf st') lo n) ?step ?fin ?init) ?post)
 case post=>rintro c st' ⟨rfl,hB',hs'⟩;exact uJ (h st' hB' hs')
 case init=>
  refine⟨rfl,hB,fun i j hij hj=>?_⟩;by_cases h1:ok=0
  ·have e:i=j:=(by omega);subst e;exact wm _
  ·exact hs i j hij (by omega)
 case fin=>rintro c st' ⟨hc,hB',hs'⟩;refine⟨hc,hB',?_⟩;rwa[show min (max (max ok 1) n) n=n by omega]at hs'
 case step=>
  rintro k c st' hak hkn ⟨rfl,hB',hs'⟩;rw[show min k n=k by omega]at hs';refine uH (wpS_mono (vV (I:=fun x c st''=>st''=st'/\∃l r,c=(none,l,r)/\l<=r/\r<=k/\r-l<=k-x/\ (∀i,i<l->K (arrOf st') (lo+i)<=K (arrOf st') (lo+k))/\(∀i,r<=i->i<k->K (arrOf st') (lo+k)<K (arrOf st') (lo+i))) (Q:=fun c st''=>st''=st'/\∃l r,c=(none,l,r)/\l<=k/\ (∀i,i<l->K (arrOf st') (lo+i)<=K (arrOf st') (lo+k))/\(∀i,l<=i->i<k->K (arrOf st') (lo+k)<K (arrOf st') (lo+i))) ?istep ?ifin ?iinit) ?ipost)
  case iinit=>exact⟨rfl,0,k,rfl,by omega,by omega,by omega,fun i hi=>by omega,fun i h1 h2=>by omega⟩
  case ifin=>rintro c st'' ⟨rfl,l,r,rfl,hlr,hrk,hm,hlo,hhi⟩;have e:l=r:=(by omega);subst e;exact⟨rfl,l,l,rfl,hrk,hlo,hhi⟩
  case istep=>
   rintro x c st'' _ hxk ⟨rfl,l,r,rfl,hlr,hrk,hm,hlo,hhi⟩;dsimp only;by_cases hge:l>=r
   ·rw[uM hge];have e:l=r:=(by omega);subst e;exact uJ ⟨rfl,l,l,rfl,hrk,hlo,hhi⟩
   ·rw[uK hge];refine uH (fq hB' h0 (by omega) (by omega) ?_);dsimp only;by_cases hless:K (arrOf st'') (lo+k)<K (arrOf st'') (lo+(l+r) / 2)
    ·rw[ve hless,uM rfl];refine uJ ⟨rfl,l,(l+r) / 2,rfl,by omega,by omega,by omega,hlo,fun i h1 h2=>?_⟩;exact Int.lt_of_lt_of_le hless (hs' _ _ h1 h2)
    ·rw[vh hless,uK (by decide)];refine uJ ⟨rfl,(l+r) / 2+1,r,rfl,by omega,by omega,by omega,fun i h1=>?_,hhi⟩;exact we (hs' i ((l+r) / 2) (by omega) (by omega)) (Int.not_lt.mp hless)
  case ipost=>
   rintro c st'' ⟨rfl,l,r,rfl,hlk,hlo,hhi⟩;dsimp only;rw[moveDown'_eq];refine uH (wpS_modify (uJ ⟨rfl,hB'.bub (by omega) (by omega),?_⟩));rw[show min (k+1) n=k+1 by omega];have hks:lo+k<(arrOf st'').size:=(by rw[hB'.size];omega);intro i j hij hj;show K (bubble (arrOf st'') (lo+k) (lo+k-(lo+l))) (lo+i)<=K (bubble (arrOf st'') (lo+k) (lo+k-(lo+l))) (lo+j);rw[K_bubble hks (by omega),K_bubble hks (by omega),show lo+k-(lo+k-(lo+l))=lo+l by omega];have e1:lo+i-1=lo+(i-1)\/i=0:=(by omega);have e2:lo+j-1=lo+(j-1)\/j=0:=(by omega);by_cases i1:i=l
   ·rw[uM (by omega)];by_cases j1:j=l
    ·rw[uM (by omega)];exact wm _
    ·rw[uK (by omega),uM (by omega),show lo+j-1=lo+(j-1) by omega];exact Int.le_of_lt (hhi _ (by omega) (by omega))
   ·rw[uK (by omega)];by_cases i2:l<i
    ·rw[uM (by omega),uK (by omega),uM (by omega),show lo+i-1=lo+(i-1) by omega,show lo+j-1=lo+(j-1) by omega];exact hs' _ _ (by omega) (by omega)
    ·rw[uK (by omega)];by_cases j1:j=l
     ·rw[uM (by omega)];exact hlo _ (by omega)
     ·rw[uK (by omega)];by_cases j2:l<j
      ·rw[uM (by omega),show lo+j-1=lo+(j-1) by omega];exact hs' _ _ (by omega) (by omega)
      ·rw[uK (by omega)];exact hs' _ _ hij (by omega)
end
noncomputable def ko(i:Nat):SM Bool:=do
 let z <-get
 let (some (sa,na,pw),some (sb,nb,_)):=((pendingOf z)[i]?,(pendingOf z)[i+1]?)|unsupported "internal:list.sort.pending"
 set (setPending z (((pendingOf z).setIfInBounds i (sa,na+nb,pw)).eraseIdxIfInBounds (i+1)))
 let some k <-dg false (<-elem' (arrOf z) sb) (arrOf z) sa na 0|return false
 let (sa,na):=(sa+k,na-k)
 if na==0 then return true
 let some nb <-dg true (<-elem' (arrOf z) (sa+na-1)) (arrOf z) sb nb (nb-1)|return false
 if nb==0 then return true
 let x:=(arrOf z).extract sa sb
 let y:=(arrOf z).extract sb (sb+nb)
 let mm <-if na<=nb then kl x y else km x y
 modify fun z=>setArr z (mm.toList.zipIdx.foldl (fun a (p,j)=>a.setIfInBounds (sa+j) p) (arrOf z))
 return (failedOf (<-get)).isNone
theorem lj(i:Nat):mergeAt' i=ko i:=rfl
theorem jL{xs:Array Keyed}{i:Nat}{x:Keyed}(e:xs.toList[i]?=some x):K xs i=kn x:=by unfold K kn;rw[<-uY,e]
noncomputable def seg(xs:Array Keyed)(lo n:Nat):List Keyed:=(xs.toList.drop lo).take n
theorem eN{xs:Array Keyed}{lo n:Nat}(h:lo+n<=xs.size):(seg xs lo n).length=n:=by unfold seg;rw[vb,wA,uP];omega
theorem seg_at{xs:Array Keyed}{lo n i:Nat}(hi:i<n):(seg xs lo n)[i]?=xs.toList[lo+i]? :=by unfold seg;rw[wz hi,List.getElem?_drop]
theorem iK{xs:Array Keyed}{lo n:Nat}(h:lo+n<=xs.size)(hs:bU xs lo n):So (seg xs lo n):=by
 refine vS.mpr fun i j hi hj hij=>?_;rw[eN h]at hi hj;have e1:xs.toList[lo+i]?=some (seg xs lo n)[i]:=by rw[<-seg_at hi];exact va (by rw[eN h];exact hi)
 have e2:xs.toList[lo+j]?=some (seg xs lo n)[j]:=by rw[<-seg_at hj];exact va (by rw[eN h];exact hj)
 rw[<-jL e1,<-jL e2];exact hs i j (Nat.le_of_lt hij) hj
theorem iL{xs:Array Keyed}{lo n:Nat}(h:lo+n<=xs.size)(hs:So (seg xs lo n)):bU xs lo n:=by
 intro i j hij hj;have hi:i<n:=by omega
 have l:=eN h;have e1:xs.toList[lo+i]?=some ((seg xs lo n)[i]'(by omega)):=by rw[<-seg_at hi];exact va (by omega)
 have e2:xs.toList[lo+j]?=some ((seg xs lo n)[j]'(by omega)):=by rw[<-seg_at hj];exact va (by omega)
 rw[jL e1,jL e2];rcases Nat.lt_or_eq_of_le hij with z|z
 ·exact vS.mp hs i j (by omega) (by omega) z
 ·subst z;exact wm _
noncomputable def layA(arr:Array Keyed)(off:Nat)(m:List Keyed):Array Keyed:=m.zipIdx.foldl (fun a (x:Keyed×Nat)=>a.setIfInBounds (off+x.2) x.1) arr
theorem iY(off:Nat):∀(m:List (Keyed×Nat))(arr:Array Keyed),(m.foldl (fun a (x:Keyed×Nat)=>a.setIfInBounds (off+x.2) x.1) arr).size=arr.size
 | [],arr=>rfl
 |x::m,arr=>by rw[List.foldl_cons,iY off m,Array.size_setIfInBounds]
theorem kC(off:Nat):∀(m:List Keyed)(t:Nat)(arr:Array Keyed),off+t+m.length<=arr.size->∀k:Nat,((m.zipIdx t).foldl (fun a (x:Keyed×Nat)=>a.setIfInBounds (off+x.2) x.1) arr)[k]?=if off+t<=k/\k<off+t+m.length then m[k-(off+t)]? else arr[k]?
 | [],t,arr,_,k=>by rw[List.zipIdx_nil,List.foldl_nil,uK (by simp)]
 |x::m,t,arr,hl,k=>by
  rw[wQ]at hl;rw[List.zipIdx_cons,List.foldl_cons,kC off m (t+1) _ (by rw[Array.size_setIfInBounds];omega) k,wQ];by_cases h1:off+(t+1)<=k/\k<off+(t+1)+m.length
  ·rw[uM h1,uM (by omega),show k-(off+t)=(k-(off+(t+1)))+1 by omega,List.getElem?_cons_succ]
  ·rw[uK h1];by_cases h2:k=off+t
   ·subst h2;rw[uM (by omega),Nat.sub_self,Array.getElem?_setIfInBounds_self_of_lt (by omega)];rfl
   ·rw[uK (by omega),Array.getElem?_setIfInBounds_ne (by omega)]
theorem kr{arr:Array Keyed}{off:Nat}{m:List Keyed}(h:off+m.length<=arr.size)(k:Nat):(layA arr off m)[k]?=if off<=k/\k<off+m.length then m[k-off]? else arr[k]? :=by have:=kC off m 0 arr (by omega) k;unfold layA;simpa using this
theorem iU{arr:Array Keyed}{off:Nat}{m:List Keyed}(h:off+m.length<=arr.size):(layA arr off m).toList=arr.toList.take off++(m++arr.toList.drop (off+m.length)):=by
 refine List.ext_getElem? fun k=>?_;rw[uY,kr h];have lt:(arr.toList.take off).length=off:=by rw[vb,uP];omega
 by_cases h1:k<off
 ·rw[uK (by omega),List.getElem?_append_left (by omega),wz h1,uY]
 ·rw[wM (by omega),lt];by_cases h2:k<off+m.length
  ·rw[uM (by omega),List.getElem?_append_left (by omega)]
  ·rw[uK (by omega),wM (by omega),List.getElem?_drop,show off+m.length+(k-off-m.length)=k by omega,uY]
theorem qH{a₀:Array Keyed}{xs:Array Keyed}(h0:fP a₀)(pm:xs.Perm a₀):∀x∈xs.toList,IsK x:=fun x hx=>h0 x ((wN.mp pm).mem_iff.mp hx)
section
variable{prog:Program}{w:World}{A:Around}{E:Value->Shared->Prop}{s:Shared}[ij prog w A E s]{a₀:Array Keyed}
theorem pQ{M:Model}{σ:Type}{x st:σ}{Q:PUnit->σ->Prop}(h:Q ⟨⟩ x):wpS M A E s (set x:StateT σ Sem PUnit) Q st:=by unfold wpS;rw[StateT.run_set];exact uG ⟨rfl,h⟩
theorem mi(xs:Array Keyed)(lo n m:Nat):seg xs lo (n+m)=seg xs lo n++seg xs (lo+n) m:=by unfold seg;rw[List.take_add,List.drop_drop]
theorem gL(xs:Array Keyed){lo n k:Nat}:(seg xs lo n).drop k=seg xs (lo+k) (n-k):=by unfold seg;rw[List.drop_take,List.drop_drop]
theorem gK(xs:Array Keyed){lo n k:Nat}(h:k<=n):(seg xs lo n).take k=seg xs lo k:=by unfold seg;rw[List.take_take,Nat.min_eq_left h]
theorem gx{xs:Array Keyed}{lo n:Nat}{x:Keyed}(h:x∈seg xs lo n):x∈xs.toList:=vY (vT h)
theorem oS(L:List Keyed)(off len:Nat):L=L.take off++((L.drop off).take len++L.drop (off+len)):=by conv=>lhs;rw[<-vL off L,<-vL len (L.drop off),List.drop_drop]
theorem jQ{st:SortSt}{i sa na pa sb nb pb:Nat}{Q:Bool->SortSt->Prop}(h0:fP a₀)(pm:(arrOf st).Perm a₀)(kd:kindOf st=kd0)(fl:failedOf st=none)
  (e1:(pendingOf st)[i]?=some (sa,na,pa)) (e2:(pendingOf st)[i+1]?=some (sb,nb,pb)) (hsb:sb=sa+na) (na1:1<=na) (nb1:1<=nb) (hz:sb+nb<=a₀.size) (ss:bU (arrOf st) sa na) (sq:bU (arrOf st) sb nb)
  (h:∀st',(arrOf st').Perm a₀->kindOf st'=kd0->failedOf st'=none->pendingOf st'=((pendingOf st).setIfInBounds i (sa,na+nb,pa)).eraseIdxIfInBounds (i+1)->bU (arrOf st') sa (na+nb)-> (∀k,k<sa\/sa+na+nb<=k->K (arrOf st') k=K (arrOf st) k)->Q true st'):wpS (model prog w) A E s (mergeAt' i) Q st:=by
 subst hsb;rw[lj];unfold ko;refine uH (wpS_get ?_);dsimp only;rw[e1,e2];dsimp only;have sz:(arrOf st).size=a₀.size:=pm.size_eq;have ik:=qH h0 pm;generalize hX:arrOf st=X at pm sz ik ss sq ⊢;have soA:=iK (show sa+na<=X.size by omega) ss;have soB:=iK (show sa+na+nb<=X.size by omega) sq;have lA:(seg X sa na).length=na:=eN (by omega);have lB:(seg X (sa+na) nb).length=nb:=eN (by omega);obtain⟨xb,eb,eb',mb⟩:=bE (a:=X) (i:=sa+na) (by omega);obtain⟨xa,ea,ea',ma⟩:=bE (a:=X) (i:=sa+na-1) (by omega);have hb0:∀y∈seg X (sa+na) nb,kn xb<=kn y:=fun y hy=>eK soB (i:=0) (by rw[seg_at (by omega)];exact eb') y (by rw[List.drop_zero];exact hy);have haL:∀y∈seg X sa na,kn y<=kn xa:=fun y hy=>eJ soA (i:=na-1) (by rw[seg_at (by omega),show sa+(na-1)=sa+na-1 by omega];exact ea') y (by rw[List.take_of_length_le (by omega)];exact hy);refine uH (pQ ?_);refine uH (av eb ?_);refine uH (c7 (seg X sa na) kd (ik _ mb) (fun x hx=>ik x (gx hx)) lA (fun i hi=>by rw[seg_at hi,uY]) soA (by omega) fun k k1 k2 k3=>?_);dsimp only;have whole:(∀x∈seg X sa na,∀y∈seg X (sa+na) nb,kn x<=kn y)->bU X sa (na+nb):=fun hc=>iL (by omega) (by rw[mi];exact vA.mpr ⟨soA,soB,hc⟩);by_cases c1:(na-k==0)=true
 ·rw[uM c1];have c1':na-k=0:=by simpa using c1
  refine uJ (h _ (by rw[<-hX]at pm;exact pm) kd fl rfl ?_ fun _ _=>rfl);show bU (arrOf st) sa (na+nb);rw[hX];refine whole fun x hx y hy=>?_;have z:=k2 x (by rw[List.take_of_length_le (by omega)];exact hx);rw[uK (by decide)]at z;exact we z (hb0 y hy)
 rw[uK c1];have c1':¬na-k=0:=by simpa using c1
 rw[show sa+k+(na-k)-1=sa+na-1 by omega];refine uH (av ea ?_);refine uH (c7 (seg X (sa+na) nb) kd (ik _ ma) (fun x hx=>ik x (gx hx)) lB (fun i hi=>by rw[seg_at hi,uY]) soB (by omega) fun t t1 t2 t3=>?_);dsimp only;by_cases c2:(t==0)=true
 ·rw[uM c2];have c2':t=0:=by simpa using c2
  refine uJ (h _ (by rw[<-hX]at pm;exact pm) kd fl rfl ?_ fun _ _=>rfl);show bU (arrOf st) sa (na+nb);rw[hX];refine whole fun x hx y hy=>?_;have z:=t3 y (by rw[c2',List.drop_zero];exact hy);rw[uM rfl]at z;exact we (haL x hx) z
 rw[uK c2];have c2':¬t=0:=by simpa using c2
 have eA:(X.extract (sa+k) (sa+na)).toList=(seg X sa na).drop k:=by rw[cE,gL,show sa+na-(sa+k)=na-k by omega];rfl
 have eB:(X.extract (sa+na) (sa+na+t)).toList=(seg X (sa+na) nb).take t:=by rw[cE,gK _ t1,show sa+na+t-(sa+na)=t by omega];rfl
 have zA:(X.extract (sa+k) (sa+na)).size=na-k:=by rw[<-uP,eA,wA,lA]
 have zB:(X.extract (sa+na) (sa+na+t)).size=t:=by rw[<-uP,eB,vb,lB];omega
 have g1:∀x∈(X.extract (sa+k) (sa+na)).toList,IsK x:=fun x hx=>by rw[eA]at hx;exact ik x (gx (vY hx))
 have g2:∀x∈(X.extract (sa+na) (sa+na+t)).toList,IsK x:=fun x hx=>by rw[eB]at hx;exact ik x (gx (vT hx))
 have g3:So (X.extract (sa+k) (sa+na)).toList:=by rw[eA];exact soA.drop k
 have g4:So (X.extract (sa+na) (sa+na+t)).toList:=by rw[eB];exact soB.take t
 have g5:∀x,(X.extract (sa+na) (sa+na+t)).toList[0]?=some x->∀y∈(X.extract (sa+k) (sa+na)).toList,kn x<=kn y:=fun x hx y hy=>by rw[eB,gK _ t1,seg_at (by omega),Nat.add_zero,eb']at hx;cases hx;rw[eA]at hy;have z:=k3 y hy;rw[uK (by decide)]at z;omega
 have g6:∀x∈(X.extract (sa+na) (sa+na+t)).toList,∀y,(X.extract (sa+k) (sa+na)).toList[(X.extract (sa+k) (sa+na)).size-1]?=some y->kn x<=kn y:=fun x hx y hy=>by rw[zA,eA,gL,seg_at (by omega),show sa+k+(na-k-1)=sa+na-1 by omega,ea']at hy;cases hy;rw[eB]at hx;have z:=t2 x hx;rw[uM rfl]at z;omega
 have fin:∀(m:Array Keyed)(st2:SortSt),SmG (setPending st (((pendingOf st).setIfInBounds i (sa,na+nb,pa)).eraseIdxIfInBounds (i+1))) st2->Mgd (X.extract (sa+k) (sa+na)).toList (X.extract (sa+na) (sa+na+t)).toList m.toList->Q true (setArr st2 (layA (arrOf st2) (sa+k) m.toList)):=by
  intro m st2 sg ⟨mp,ms⟩;rw[eA,eB]at mp;have ml:m.toList.length=(na-k)+t:=by rw[mp.length_eq,uO,wA,vb,lA,lB];omega
  have eX:arrOf st2=X:=sg.ar.trans hX;have hoff:sa+k+m.toList.length<=X.size:=by omega
  have sS:seg X (sa+k) ((na-k)+t)=(seg X sa na).drop k++(seg X (sa+na) nb).take t:=by rw[mi,gL,gK _ t1,show sa+k+(na-k)=sa+na by omega]
  rw[eX];refine h _ ?_ (sg.kd.trans kd) (sg.fl.trans fl) sg.pd ?_ fun j hj=>?_
  ·show(layA X (sa+k) m.toList).Perm a₀;refine Array.Perm.trans (wN.mpr ?_) pm;rw[iU hoff,ml]
   conv=>rhs;rw[oS X.toList (sa+k) ((na-k)+t)]
   refine List.Perm.append_left _ (List.Perm.append_right _ ?_);have:(X.toList.drop (sa+k)).take ((na-k)+t)=(seg X sa na).drop k++(seg X (sa+na) nb).take t:=sS;rw[this];exact mp
  ·show bU (layA X (sa+k) m.toList) sa (na+nb);have lz:(layA X (sa+k) m.toList).size=X.size:=iY _ _ _;refine iL (by omega) ?_;have es:seg (layA X (sa+k) m.toList) sa (na+nb)=(seg X sa na).take k++(m.toList++(seg X (sa+na) nb).drop t):=by
    unfold seg;rw[iU hoff,ml,List.drop_append_of_le_length (by rw[vb,uP];omega),<-vg];have q1:(X.toList.take (sa+k)).drop sa=((X.toList.drop sa).take na).take k:=by rw[List.drop_take,List.take_take,Nat.min_eq_left k1,show sa+k-sa=k by omega]
    have q2:(((X.toList.drop sa).take na).take k++m.toList).length=na+t:=by rw[uO,ml,vb];have:((X.toList.drop sa).take na).length=na:=lA;omega
    rw[q1,List.take_append,q2,List.take_of_length_le (by omega),vg];congr 2;rw[List.drop_take,List.drop_drop,show na+nb-(na+t)=nb-t by omega,show sa+k+((na-k)+t)=sa+na+t by omega]
   rw[es];refine vA.mpr ⟨soA.take k,vA.mpr ⟨ms,soB.drop t,fun x hx y hy=>?_⟩,fun x hx y hy=>?_⟩
   ·rcases uR.mp (mp.mem_iff.mp hx)with v|v
    ·have z:=t3 y hy;rw[uM rfl]at z;exact we (haL x (vY v)) z
    ·have sB':=soB;rw[<-vL t (seg X (sa+na) nb)]at sB';exact(vA.mp sB').2.2 x v y hy
   ·have z:=k2 x hx;rw[uK (by decide)]at z;have za:∀y∈(seg X sa na).drop k,kn x<=kn y:=fun y hy=>by
     have sA':=soA;rw[<-vL k (seg X sa na)]at sA';exact(vA.mp sA').2.2 x hx y hy
    rcases uR.mp hy with v|v
    ·rcases uR.mp (mp.mem_iff.mp v)with u|u
     ·exact za y u
     ·exact we z (hb0 y (vT u))
    ·exact we z (hb0 y (vY v))
  ·refine K_congr ?_;show(layA X (sa+k) m.toList)[j]?=(arrOf st)[j]?;rw[hX,kr hoff,uK (by omega)]
 by_cases c3:na-k<=t
 ·rw[uM c3,lg];refine uH (pS kd g1 g2 g3 g4 (by omega) (by omega) g5 g6 fun m st2 sg mg=>?_);refine uH (wpS_modify (uH (wpS_get (uJ ?_))));have e:(failedOf st2).isNone=true:=by rw[sg.fl,show failedOf (setPending st _)=failedOf st from rfl,fl];rfl
  show Q (failedOf st2).isNone _;rw[e];exact fin m st2 sg mg
 ·rw[uK c3,lh];refine uH (pT kd g1 g2 g3 g4 (by omega) (by omega) g5 g6 fun m st2 sg mg=>?_);refine uH (wpS_modify (uH (wpS_get (uJ ?_))));have e:(failedOf st2).isNone=true:=by rw[sg.fl,show failedOf (setPending st _)=failedOf st from rfl,fl];rfl
  show Q (failedOf st2).isNone _;rw[e];exact fin m st2 sg mg
end
theorem su{b:Prop}[Decidable b]{u v m:Nat}(h1:u+1<m)(h2:v+1<m):(if b then u else v)+1<m:=by
 split
 ·exact h1
 ·exact h2
noncomputable def Runs(xs:Array Keyed):Nat->List (Nat×Nat×Nat)->Nat->Prop
 |b,[],e=>b=e
 |b,(t,n,_)::p,e=>t=b/\1<=n/\bU xs b n/\Runs xs (b+n) p e
theorem Runs.app{xs:Array Keyed}{p q:List (Nat×Nat×Nat)}{e:Nat}:∀{b:Nat},Runs xs b (p++q) e<->∃m,Runs xs b p m/\Runs xs m q e:=by
 induction p with
 |nil=>exact fun {b}=>⟨fun h=>⟨b,rfl,h⟩,fun⟨m,h1,h2⟩=>by cases h1;exact h2⟩
 |cons x p ih=>obtain⟨t,n,w⟩:=x;intro b;show(t=b/\1<=n/\bU xs b n/\Runs xs (b+n) (p++q) e)<->_;rw[ih];exact⟨fun⟨h1,h2,h3,m,h4,h5⟩=>⟨m,⟨h1,h2,h3,h4⟩,h5⟩,fun⟨m,⟨h1,h2,h3,h4⟩,h5⟩=>⟨h1,h2,h3,m,h4,h5⟩⟩
theorem Runs.le{xs:Array Keyed}{e:Nat}:∀{p:List (Nat×Nat×Nat)}{b:Nat},Runs xs b p e->b+p.length<=e
 | [],b,h=>by cases h;exact uW _
 |(t,n,w)::p,b,h=>by obtain⟨_,h2,_,h4⟩:=h;have:=h4.le;rw[wQ];omega
theorem bU.of{xs ys:Array Keyed}{lo n:Nat}(h:bU xs lo n)(k:∀i,lo<=i->i<lo+n->K ys i=K xs i):bU ys lo n:=fun i j hij hj=>by rw[k (lo+i) (by omega) (by omega),k (lo+j) (by omega) (by omega)];exact h i j hij hj
theorem Runs.of{xs ys:Array Keyed}{e:Nat}:∀{p:List (Nat×Nat×Nat)}{b:Nat},Runs xs b p e->(∀i,b<=i->i<e->K ys i=K xs i)->Runs ys b p e
 | [],b,h,_=>h
 |(t,n,w)::p,b,h,k=>by obtain⟨h1,h2,h3,h4⟩:=h;have:=h4.le;exact⟨h1,h2,h3.of fun i g1 g2=>k i g1 (by omega),h4.of fun i g1 g2=>k i (by omega) g2⟩
theorem Runs.mod{xs:Array Keyed}{e:Nat}{f:Nat×Nat×Nat->Nat×Nat×Nat}(hf:∀x,(f x).1=x.1/\(f x).2.1=x.2.1):∀{p:List (Nat×Nat×Nat)}{b i:Nat},Runs xs b p e->Runs xs b (p.modify i f) e
 | [],b,i,h=>by cases i<;>exact h
 |(t,n,w)::p,b,0,h=>by
  obtain⟨h1,h2,h3,h4⟩:=h;obtain⟨f1,f2⟩:=hf (t,n,w);rw[List.modify_zero_cons];cases hx:f (t,n,w)with
  |mk t' x=>obtain⟨n',w'⟩:=x;rw[hx]at f1 f2;have f1':t'=t:=f1;have f2':n'=n:=f2;subst f1' f2';exact⟨h1,h2,h3,h4⟩
 |(t,n,w)::p,b,i+1,h=>by obtain⟨h1,h2,h3,h4⟩:=h;rw[List.modify_succ_cons];exact⟨h1,h2,h3,h4.mod hf⟩
theorem qT{p:List (Nat×Nat×Nat)}{i:Nat}{x y:Nat×Nat×Nat}(e1:p[i]?=some x)(e2:p[i+1]?=some y):p=p.take i++x::y::p.drop (i+2):=by obtain⟨h1,e1⟩:=uS.mp e1;obtain⟨h2,e2⟩:=uS.mp e2;rw[<-e1,<-e2,List.getElem_cons_drop,List.getElem_cons_drop,vL]
theorem qa{p:List (Nat×Nat×Nat)}{i:Nat}{x y v:Nat×Nat×Nat}(e1:p[i]?=some x)(e2:p[i+1]?=some y):(p.set i v).eraseIdx (i+1)=p.take i++v::p.drop (i+2):=by
 have h1:=(uS.mp e1).1;have h2:=(uS.mp e2).1;rw[List.eraseIdx_eq_take_drop_succ,List.take_set,List.drop_set_of_lt (by omega)];have:(p.take (i+1)).set i v=p.take i++[v]:=by rw[vo,e1];rw[List.set_append_right _ _ (by rw[vb];omega),vb,Nat.min_eq_left (by omega),Nat.sub_self];rfl
 rw[this,vg];rfl
theorem two_list{p:Array (Nat×Nat×Nat)}{i:Nat}{x y v:Nat×Nat×Nat}(e1:p[i]?=some x)(e2:p[i+1]?=some y):((p.setIfInBounds i v).eraseIdxIfInBounds (i+1)).toList=p.toList.take i++v::p.toList.drop (i+2):=by rw[<-qa (p:=p.toList) (by rw[uY];exact e1) (by rw[uY];exact e2)];simp
section
variable{prog:Program}{w:World}{A:Around}{E:Value->Shared->Prop}{s:Shared}[ij prog w A E s]{a₀:Array Keyed}
structure SR(a₀:Array Keyed)(e:Nat)(st:SortSt):Prop where
 perm:(arrOf st).Perm a₀
 kind:kindOf st=kd0
 failed:failedOf st=none
 runs:Runs (arrOf st) 0 (pendingOf st).toList e
theorem jc{st:SortSt}{i e:Nat}{Q:Bool->SortSt->Prop}(h0:fP a₀)(R:SR a₀ e st)(he:e<=a₀.size)(hi:i+1<(pendingOf st).size)
  (h:∀st',SR a₀ e st'->(pendingOf st').size+1=(pendingOf st).size->(∀k,e<=k->K (arrOf st') k=K (arrOf st) k)->Q true st'):wpS (model prog w) A E s (mergeAt' i) Q st:=by
 obtain⟨⟨sa,na,pa⟩,e1⟩:∃x,(pendingOf st)[i]?=some x:=⟨_,Array.getElem?_eq_getElem (by omega)⟩;obtain⟨⟨sb,nb,pb⟩,e2⟩:∃x,(pendingOf st)[i+1]?=some x:=⟨_,Array.getElem?_eq_getElem hi⟩;have cut:=qT (p:=(pendingOf st).toList) (by rw[uY];exact e1) (by rw[uY];exact e2);have rr:=R.runs;rw[cut]at rr;obtain⟨m,r1,t1,n1,s1,t2,n2,s2,r2⟩:=Runs.app.mp rr;subst t1;have le:=r2.le;refine jQ h0 R.perm R.kind R.failed e1 e2 t2 n1 n2 (by omega) s1 (by rw[t2];exact s2) fun st' q1 q2 q3 q4 q5 q6=>h st' ⟨q1,q2,q3,?_⟩ ?_ fun k hk=>q6 k (by omega)
 ·rw[q4,two_list e1 e2];refine Runs.app.mpr ⟨_,r1.of fun i g1 g2=>q6 i (.inl g2),rfl,by omega,q5,?_⟩;rw[show sa+(na+nb)=sa+na+nb by omega];exact r2.of fun i g1 g2=>q6 i (.inr g1)
 ·have:=congrArg List.length (two_list (v:=(sa,na+nb,pa)) e1 e2);rw[<-q4,uP,uO,wQ,vb,wA,uP]at this;omega
theorem gb{st:SortSt}{Q:Unit->SortSt->Prop}(h0:fP a₀)(pm:(arrOf st).Perm a₀)(kd:kindOf st=kd0)(fl:failedOf st=none)(pd:pendingOf st= #[])(h2:1<=a₀.size)
  (h:∀st',(arrOf st').Perm a₀->failedOf st'=none->SortedTo (arrOf st') a₀.size->Q () st'):wpS (model prog w) A E s sortRuns' Q st:=by
 rw[sortRuns'_eq];refine uH (wpS_get ?_);dsimp only;have sz:(arrOf st).size=a₀.size:=pm.size_eq;rw[sz];refine uH (wpS_mono (vV (I:=fun x c st'=>∃lo,c=(none,lo)/\SR a₀ lo st'/\lo<=a₀.size/\x<=lo) (Q:=fun c st'=>c=(none,a₀.size)/\SR a₀ a₀.size st') ?step ?fin ⟨0,rfl,⟨pm,kd,fl,by rw[pd];rfl⟩,vN _,uW _⟩) ?post)
 case fin=>
  rintro c st' ⟨lo,rfl,R,l1,l2⟩;have:lo=a₀.size:=by omega
  subst this;exact⟨rfl,R⟩
 case step=>
  rintro x c st1 _ hx ⟨lo,rfl,R,l1,l2⟩;dsimp only;by_cases c1:lo>=a₀.size
  ·rw[uM c1];have:lo=a₀.size:=(by omega);subst this;exact uJ ⟨rfl,R⟩
  rw[uK c1];have B1:SA a₀ st1 lo st1:=⟨R.perm,R.kind,R.failed,rfl,fun _ _=>rfl⟩;refine uH (pX h0 B1 (by omega) (by omega) fun m st2 B2 m1 m2 sn2=>?_);dsimp only;by_cases c2:m<minRun' a₀.size a₀.size 0
  ·rw[uM c2];refine uH (wpS_lift (wpAny_rule ⟨rfl,?_⟩));generalize hN:min (a₀.size-lo) (minRun' a₀.size a₀.size 0)=N;have n1:1<=N:=(by omega);have n2:lo+N<=a₀.size:=(by omega);refine uH (mU h0 n2 (by omega) B2 sn2 fun st3 B3 sn3=>?_)
   try dsimp only
   rw[uK (by decide)]
   have R3:SR a₀ lo st3:=⟨B3.perm,B3.kind,B3.failed,by
    rw[B3.pend]
    exact R.runs.of fun i _ g2=>K_congr (B3.keep i g2)⟩
   refine uH (wpS_get ?_);cases hb:(pendingOf st3).back? with
   |none=>dsimp only;have R5:=R3;have sn5:=sn3;generalize st3=st5 at R5 sn5 ⊢;refine uH (wpS_modify (uJ ⟨lo+N,rfl,⟨R5.perm,R5.kind,R5.failed,?_⟩,by omega,by omega⟩));show Runs (arrOf st5) 0 ((pendingOf st5).push (lo,N,0)).toList (lo+N);rw[vm];exact Runs.app.mpr ⟨lo,R5.runs,rfl,n1,sn5,rfl⟩
   |some y=>
    obtain⟨s1,n1',w1⟩:=y;dsimp only;generalize power' a₀.size (2*s1+n1') (2*s1+n1'+n1'+N) a₀.size=pw;refine uH (wpS_mono (vV (I:=fun x c st'=>c=(none,())/\SR a₀ lo st'/\bU (arrOf st') lo N) (Q:=fun c st'=>c=(none,())/\SR a₀ lo st'/\bU (arrOf st') lo N) ?istep (fun c st' hh=>hh) ⟨rfl,R3,sn3⟩) ?ipost)
    case istep=>
     rintro x' c st' _ _ ⟨rfl,R4,sn4⟩;refine uH (wpS_get ?_);by_cases g1:(pendingOf st').size>1
     ·obtain⟨⟨q1,q2,q3⟩,e⟩:∃y,(pendingOf st')[(pendingOf st').size-2]?=some y:=⟨_,Array.getElem?_eq_getElem (by omega)⟩;rw[uM g1,e];dsimp only;by_cases g2:q3<=pw
      ·rw[uM g2];exact uJ ⟨rfl,R4,sn4⟩
      ·rw[uK g2];refine uH (jc h0 R4 (by omega) (by omega) fun st6 R6 _ k6=>?_)
       try dsimp only
       rw[uK (by decide)];exact uJ ⟨rfl,R6,sn4.of fun i g1 g2=>k6 i g1⟩
     ·rw[uK g1];exact uJ ⟨rfl,R4,sn4⟩
    case ipost=>
    rintro c st4 ⟨rfl,R4,sn4⟩;dsimp only;refine uH (wpS_modify ?_)
    have R5:SR a₀ lo (setPending st4 ((pendingOf st4).modify ((pendingOf st4).size-1) fun x=>(x.fst,x.2.fst,pw))):=⟨R4.perm,R4.kind,R4.failed,by
     show Runs (arrOf st4) 0 ((pendingOf st4).modify ((pendingOf st4).size-1) fun x=>(x.fst,x.2.fst,pw)).toList lo;rw[Array.toList_modify]
     exact R4.runs.mod (f:=fun x=>(x.fst,x.2.fst,pw)) fun x=>⟨rfl,rfl⟩⟩
    have sn5:bU (arrOf (setPending st4 ((pendingOf st4).modify ((pendingOf st4).size-1) fun x=>(x.fst,x.2.fst,pw)))) lo N:=sn4;generalize (setPending st4 ((pendingOf st4).modify ((pendingOf st4).size-1) fun x=>(x.fst,x.2.fst,pw)))=st5 at R5 sn5 ⊢;refine uH (wpS_modify (uJ ⟨lo+N,rfl,⟨R5.perm,R5.kind,R5.failed,?_⟩,by omega,by omega⟩));show Runs (arrOf st5) 0 ((pendingOf st5).push (lo,N,0)).toList (lo+N);rw[vm];exact Runs.app.mpr ⟨lo,R5.runs,rfl,n1,sn5,rfl⟩
  ·rw[uK c2];have n1:=m1;have n2:lo+m<=a₀.size:=(by omega);have B3:=B2;have sn3:=sn2;generalize st2=st3 at B3 sn3 ⊢;generalize m=N at n1 n2 sn3 ⊢
   have R3:SR a₀ lo st3:=⟨B3.perm,B3.kind,B3.failed,by
    rw[B3.pend]
    exact R.runs.of fun i _ g2=>K_congr (B3.keep i g2)⟩
   refine uH (wpS_get ?_);cases hb:(pendingOf st3).back? with
   |none=>dsimp only;have R5:=R3;have sn5:=sn3;generalize st3=st5 at R5 sn5 ⊢;refine uH (wpS_modify (uJ ⟨lo+N,rfl,⟨R5.perm,R5.kind,R5.failed,?_⟩,by omega,by omega⟩));show Runs (arrOf st5) 0 ((pendingOf st5).push (lo,N,0)).toList (lo+N);rw[vm];exact Runs.app.mpr ⟨lo,R5.runs,rfl,n1,sn5,rfl⟩
   |some y=>
    obtain⟨s1,n1',w1⟩:=y;dsimp only;generalize power' a₀.size (2*s1+n1') (2*s1+n1'+n1'+N) a₀.size=pw;refine uH (wpS_mono (vV (I:=fun x c st'=>c=(none,())/\SR a₀ lo st'/\bU (arrOf st') lo N) (Q:=fun c st'=>c=(none,())/\SR a₀ lo st'/\bU (arrOf st') lo N) ?istep (fun c st' hh=>hh) ⟨rfl,R3,sn3⟩) ?ipost)
    case istep=>
     rintro x' c st' _ _ ⟨rfl,R4,sn4⟩;refine uH (wpS_get ?_);by_cases g1:(pendingOf st').size>1
     ·obtain⟨⟨q1,q2,q3⟩,e⟩:∃y,(pendingOf st')[(pendingOf st').size-2]?=some y:=⟨_,Array.getElem?_eq_getElem (by omega)⟩;rw[uM g1,e];dsimp only;by_cases g2:q3<=pw
      ·rw[uM g2];exact uJ ⟨rfl,R4,sn4⟩
      ·rw[uK g2];refine uH (jc h0 R4 (by omega) (by omega) fun st6 R6 _ k6=>?_)
       try dsimp only
       rw[uK (by decide)];exact uJ ⟨rfl,R6,sn4.of fun i g1 g2=>k6 i g1⟩
     ·rw[uK g1];exact uJ ⟨rfl,R4,sn4⟩
    case ipost=>
    rintro c st4 ⟨rfl,R4,sn4⟩;dsimp only;refine uH (wpS_modify ?_)
    have R5:SR a₀ lo (setPending st4 ((pendingOf st4).modify ((pendingOf st4).size-1) fun x=>(x.fst,x.2.fst,pw))):=⟨R4.perm,R4.kind,R4.failed,by
     show Runs (arrOf st4) 0 ((pendingOf st4).modify ((pendingOf st4).size-1) fun x=>(x.fst,x.2.fst,pw)).toList lo;rw[Array.toList_modify]
     exact R4.runs.mod (f:=fun x=>(x.fst,x.2.fst,pw)) fun x=>⟨rfl,rfl⟩⟩
    have sn5:bU (arrOf (setPending st4 ((pendingOf st4).modify ((pendingOf st4).size-1) fun x=>(x.fst,x.2.fst,pw)))) lo N:=sn4;generalize (setPending st4 ((pendingOf st4).modify ((pendingOf st4).size-1) fun x=>(x.fst,x.2.fst,pw)))=st5 at R5 sn5 ⊢;refine uH (wpS_modify (uJ ⟨lo+N,rfl,⟨R5.perm,R5.kind,R5.failed,?_⟩,by omega,by omega⟩));show Runs (arrOf st5) 0 ((pendingOf st5).push (lo,N,0)).toList (lo+N);rw[vm];exact Runs.app.mpr ⟨lo,R5.runs,rfl,n1,sn5,rfl⟩
 case post=>
  rintro c st1 ⟨rfl,R⟩;dsimp only;have l0:=R.runs.le;rw[uP]at l0;refine uH (wpS_mono (vV (I:=fun x c st'=>c=(none,())/\SR a₀ a₀.size st'/\(pendingOf st').size+x<=a₀.size) (Q:=fun c st'=>c=(none,())/\SR a₀ a₀.size st'/\(pendingOf st').size<=1) ?fstep ?ffin ⟨rfl,R,by omega⟩) ?fpost)
  case ffin=>rintro c st' ⟨rfl,R',l⟩;exact⟨rfl,R',by omega⟩
  case fstep=>
   rintro x c st' _ hx ⟨rfl,R',l⟩;refine uH (wpS_get ?_);by_cases g1:(pendingOf st').size<=1
   ·rw[uM g1];exact uJ ⟨rfl,R',g1⟩
   ·rw[uK g1];refine uH (jc h0 R' (uW _) ?_ fun st6 R6 l6 _=>?_)
    ·exact su (by omega) (by omega)
    ·try dsimp only
     rw[uK (by decide)];exact uJ ⟨rfl,R6,by omega⟩
  case fpost=>
   rintro c st' ⟨rfl,R',l⟩;refine uJ (h st' R'.perm R'.failed ?_);have rr:=R'.runs;have ll:(pendingOf st').toList.length<=1:=(by rw[uP];exact l);generalize (pendingOf st').toList=p at rr ll
   match p,rr,ll with
   | [],rr,_=>have:0=a₀.size:=rr;omega
   | [(t,n,w)],rr,_=>obtain⟨_,_,q3,q4⟩:=rr;have q4':0+n=a₀.size:=q4;intro i j hij hj;have:=q3 i j hij (by omega);rw[Nat.zero_add,Nat.zero_add]at this;exact this
   |_::_::_,_,ll=>simp at ll
end
end LT
namespace LT
open PySem PySem.Spec PyProof.Rows L2
section
variable{prog:Program}{w:World}{A:Around}{E:Value->Shared->Prop}{s:Shared}
theorem kE{v:Value}{Q:Bool->Shared->Prop}(hv:(v==v)=true)(q:Q true s):wpAny (model prog w) A (eqBool v v) Q E s:=by unfold eqBool;refine wpAny_holding ?_;rw[hv];exact uE (wpAny_rule (uG q))
end
theorem eE{α β:Type}{f:α->β}:∀{zs:List α}{l:List β},l.Perm (zs.map f)->∃ys:List α,ys.Perm zs/\l=ys.map f:=by
 intro zs l h;generalize hm:zs.map f=m at h
 induction h generalizing zs with
 |nil=>rw[List.map_eq_nil_iff]at hm;subst hm;exact⟨[],.nil,rfl⟩
 |cons x _ ih=>obtain⟨z,zs',rfl,rfl,rfl⟩:=List.map_eq_cons_iff.mp hm;obtain⟨ys,h1,h2⟩:=ih rfl;exact⟨z::ys,h1.cons z,by rw[vp,h2]⟩
 |swap x y l=>obtain⟨z,zs',rfl,rfl,h2⟩:=List.map_eq_cons_iff.mp hm;obtain⟨z2,zs2,rfl,rfl,rfl⟩:=List.map_eq_cons_iff.mp h2;exact⟨z2::z::zs2,.swap z z2 zs2,rfl⟩
 |trans _ _ ih1 ih2=>obtain⟨ys,h1,rfl⟩:=ih2 hm;obtain⟨ws,h3,rfl⟩:=ih1 rfl;exact⟨ws,h3.trans h1,rfl⟩
section
variable{prog:Program}{w:World}{A:Around}{E:Value->Shared->Prop}{s:Shared}
theorem fm{M:Model}{α:Type}{f:Value->Sem α}{g:Value->α}:∀{vs:List Value}{Q:List α->Shared->Prop},(∀v∈vs,∀{R:α->Shared->Prop},R (g v) s->wpAny M A (f v) R E s)->Q (vs.map g) s->wpAny M A (vs.mapM f) Q E s
 | [],Q,_,q=>by rw[List.mapM_nil];exact uG q
 |v::vs,Q,h,q=>by rw[List.mapM_cons];refine uE (h v (uN ..) (uE (fm (g:=g) (fun u hu=>h u (uL _ hu)) (uG q))))
theorem firstT (v : Value) : firstOfTuple' v = (do if (← typeOf v) != .type "tuple" then return none
                                                   return (← Builtin.List.listItems v)[0]?) := rfl
end
end LT
namespace L2
open PySem PySem.W
theorem af{X:Cx}{body:List Stmt}{Z:TS->Prop}(n:Nat){u:TS}(r:PSs X (body.drop n) u)(k:let R:=u;PSs X (body.drop n) R->∃t,PSs X body t/\Z t):∃t,PSs X body t/\Z t:=k r
theorem bb{X:Cx}{body:List Stmt}{Z:TS->Prop}(k:let Y:=X;∃t,PSs Y body t/\Z t):∃t,PSs X body t/\Z t:=k
theorem tR{P:List Value->Prop}(h:∀a0,P [a0])(us:List Value)(hl:us.length=1):P us:=by
 cases us with
 |nil=>cases hl
 |cons a0 us=>exact(show P (a0::us)from by cases us with|nil=>exact h a0|cons b us=>cases hl)
theorem tQ{P:List Value->Prop}(h:∀a0 a1,P [a0,a1])(us:List Value)(hl:us.length=2):P us:=by
 cases us with
 |nil=>cases hl
 |cons a0 us=>exact tR (P:=fun us=>P (a0::us)) (h a0) us (Nat.succ.inj hl)
theorem tP{P:List Value->Prop}(h:∀a0 a1 a2,P [a0,a1,a2])(us:List Value)(hl:us.length=3):P us:=by
 cases us with
 |nil=>cases hl
 |cons a0 us=>exact tQ (P:=fun us=>P (a0::us)) (h a0) us (Nat.succ.inj hl)
theorem tO{P:List Value->Prop}(h:∀a0 a1 a2 a3,P [a0,a1,a2,a3])(us:List Value)(hl:us.length=4):P us:=by
 cases us with
 |nil=>cases hl
 |cons a0 us=>exact tP (P:=fun us=>P (a0::us)) (h a0) us (Nat.succ.inj hl)
theorem tN{P:List Value->Prop}(h:∀a0 a1 a2 a3 a4,P [a0,a1,a2,a3,a4])(us:List Value)(hl:us.length=5):P us:=by
 cases us with
 |nil=>cases hl
 |cons a0 us=>exact tO (P:=fun us=>P (a0::us)) (h a0) us (Nat.succ.inj hl)
theorem tM{P:List Value->Prop}(h:∀a0 a1 a2 a3 a4 a5,P [a0,a1,a2,a3,a4,a5])(us:List Value)(hl:us.length=6):P us:=by
 cases us with
 |nil=>cases hl
 |cons a0 us=>exact tN (P:=fun us=>P (a0::us)) (h a0) us (Nat.succ.inj hl)
theorem uz{P:List Value->Prop}(h:∀a0 a1 a2 a3 a4 a5 a6,P [a0,a1,a2,a3,a4,a5,a6])(us:List Value)(hl:us.length=7):P us:=by
 cases us with
 |nil=>cases hl
 |cons a0 us=>exact tM (P:=fun us=>P (a0::us)) (h a0) us (Nat.succ.inj hl)
end L2
namespace L2
open PySem PySem.Spec PyProof.Rows
section
variable{X:Cx}{tg:Expr}
def rE(P:Program)(w:World)(K:Frag)(neg:Bool)(ty td:TE):TE:=fun σ H Q=>ty σ H fun y H1=>td σ H1 fun x H2=>∃d o T b c,x=.ref d/\cb P w K H2 d o T/\y=.ref b/\d8 K H2 b c/\Q (.bl (if neg then !(atT T c).isSome else(atT T c).isSome)) H2
theorem iO{i o:Expr}{td ty:TE}(hu:X.A.units+64<cLine)(hi:PE X i ty)(ho:PE X o td):PC X .NotIn i o (rE X.prog X.w X.K true ty td):=by
 intro pins s σ H Q I h;refine thn (hi pins s σ H _ I h) fun iv s1 hPz=>L2.ep3 hPz fun y H1 I1 ry q1=>thn (ho pins s1 σ H1 _ I1 q1) fun u s2 hPz=>?_;obtain⟨x,H2,I2,rx,d,ob,T,b,c,ex,hc,ey,hb,q2⟩:=hPz;subst ex ey;cases rx;cases ry;obtain⟨h1,h2,h3,h4⟩:=hc;obtain⟨vs,rv,DD⟩:=h2.dict I2 h1 h4;refine wpAny_notIn_heap (show X.A.in1.units+3<cLine by simp only[Around.in1_units];omega) (hb.is I2) h3 DD ?_;have e:(atKey vs c).isSome=(atT T c).isSome:=by rcases rz (c:=c) rv with⟨z1,z2⟩|⟨v',p,z1,z2,_⟩<;>rw[z1,z2]<;>rfl
 rw[e];exact⟨.bl _,H2,I2.tok _,rfl,q2⟩
end
end L2
namespace L2
open PySem PySem.Spec PyProof.Rows LM
def Dis(a b:Nat):Prop:=∀j,¬(a.testBit j=true/\b.testBit j=true)
theorem nk{w h r:Nat}{ps:List Nat}(a:dI w h r ps)(hr:r<2^64):(∀p∈ps,p≠0/\Sub p r)/\ps.Pairwise Dis:=by
 induction a with
 |nil=>exact⟨fun _ z=>(nomatch z),.nil⟩
 | @cons r p ps z cp _ ih=>
  obtain⟨i1,i2⟩:=ih (lI hr);refine⟨fun q hq=>?_,?_⟩
  ·rcases vn.mp hq with rfl|hq
   ·exact⟨(h8 hr z cp).1,fun j hj=>cp.sub hj⟩
   ·refine⟨(i1 q hq).1,fun j hj=>?_⟩;have:=(i1 q hq).2 j hj;rw[dU,vK]at this;exact this.1
  ·rw[List.pairwise_cons];refine⟨fun q hq j ⟨h1,h2⟩=>?_,i2⟩;have:=(i1 q hq).2 j h2;rw[dU,h1,Bool.not_true,Bool.and_false]at this;cases this
end L2
namespace L2
theorem mN{α:Type}{P:α->Prop}:∀p∈([]:List α),P p:=fun _ h=>nomatch h
theorem mC{α:Type}{P:α->Prop}{a:α}{l:List α}(h:P a)(t:∀p∈l,P p):∀p∈a::l,P p:=fun p hp=>by
 cases hp with
 |head=>exact h
 |tail _ hp=>exact t p hp
end L2
namespace L2
open PySem PySem.W
theorem d7{g:(St->Hp->Prop)->Prop}{t:TS}{D:Ends}(k:let D':=D;g fun σ2 H2=>t D' σ2 H2):g (fun σ2 H2=>t D σ2 H2):=k
theorem fg{t:TS}{D:Ends}{σ:St}{H:Hp}(k:let D':=D;t D' σ H):t D σ H:=k
theorem gq{g:(St->Hp->Prop)->Prop}{tt:TT}{te:TE}{q:VK}{r:Hp->Prop}(k:let q':=q;let r':=r;g fun σ2 H4=>tt σ2 H4 fun b H5=>if b=true then te σ2 H5 q' else r' H5):g (fun σ2 H4=>tt σ2 H4 fun b H5=>if b=true then te σ2 H5 q else r H5):=k
noncomputable def tm:Stmt->List Stmt
 | .For _ _ b _ _=>b
 | .While _ b _ _=>b
 |_=>[]
theorem aK{X:Cx}{body:List Stmt}{Z:TS->Prop}(k j:Nat){u:TS}(r:PSs X ((tm (body.getD k (.Pass ⟨0,0,0,0⟩))).drop j) u)(h:let R:=u;PSs X ((tm (body.getD k (.Pass ⟨0,0,0,0⟩))).drop j) R->∃t,PSs X body t/\Z t):∃t,PSs X body t/\Z t:=h r
end L2
namespace PySem
namespace F
theorem jx:typeLookup (.type "list") "keys"=pure none:=by rw[typeLookup_type,builtinLookup_eq_fast];kernel_rfl
theorem d0:typeLookup (.type "list") "__getattr__"=pure none:=by rw[typeLookup_type,builtinLookup_eq_fast];kernel_rfl
end F
section
variable{prog:Program}{w:World}{A:Around}{E:Value->Shared->Prop}{h:Heap}{g:Array GenState}{d:Drawn}{t:Nat}{os:OsState}{a:Addr}{o:Obj}
theorem gv{tk:Tok}{Q:Fin->Shared->Prop}(hh:A.handled=none)(hx:h.get? a=some o)(hc:o.cls=.type "list"){its:Array Value}{n:Nat}(hd:o.data=.seq its n)(hn:o.dict=none)
  (hq:∀h' t' e,gC h h' e->E (.ref e) ⟨h',g,d,t',os⟩):
  wpAny (model prog w) A (Builtin.«object.__getattribute__» ⟨[.ref a,.str "keys" tk],[]⟩) Q E ⟨h,g,d,t,os⟩:=by
 have hT:(⟨h,g,d,t,os⟩:Shared).TypeIs (.ref a) "list":=⟨_,hx,hc⟩;have f4:=F.jx;have f5:=F.d0
 repeat (any_goals (first|assumption|wp_step))
 rw[hd];dsimp only
 repeat (any_goals (first|assumption|wp_step))
 rw[hc,hn];dsimp only
 repeat (any_goals (first|assumption|wp_step))
 exact iw hh (by decide+kernel) hq
theorem g0{tk:Tok}{R:Result->Shared->Prop}(hh:A.handled=none)(hx:h.get? a=some o)(hc:o.cls=.type "list"){its:Array Value}{n:Nat}(hd:o.data=.seq its n)(hn:o.dict=none)
  (hq:∀h' t' e,gC h h' e->R (.error (.ref e)) ⟨h',g,d,t',os⟩):
  codeAny (model prog w) A (.call (.builtin "list.__getattribute__") ⟨[.ref a,.str "keys" tk],[]⟩) R ⟨h,g,d,t,os⟩:=
 codeAny_call_builtin F.slot_list_getattribute.plain F.entry_list_ga (F.slot_list_getattribute.check _ _ _ _ _ _ _ _ (show(⟨h,g,d,t,os⟩:Shared).TypeIs (.ref a) "list" from⟨_,hx,hc⟩) (F.args_list_getattribute_2 _ _)
  (gv (by simpa using hh) hx hc hd hn hq))
theorem jz{tk:Tok}{Q:Value->Shared->Prop}(hh:A.handled=none)(hx:h.get? a=some o)(hc:o.cls=.type "list"){its:Array Value}{n:Nat}(hd:o.data=.seq its n)(hn:o.dict=none)
  (hq:∀h' t' e,gC h h' e->E (.ref e) ⟨h',g,d,t',os⟩):wpAny (model prog w) A (getAttrBy (.ref a) (.str "keys" tk) false) Q E ⟨h,g,d,t,os⟩:=by
 have hT:(⟨h,g,d,t,os⟩:Shared).TypeIs (.ref a) "list":=⟨_,hx,hc⟩;have f2:=F.slot_list_getattribute.lookup;have f3:=F.slot_list_getattribute.bind (.ref a);have f5:=F.d0
 repeat (any_goals (first|assumption|wp_step))
 refine g0 hh hx hc hd hn fun h' t' e he=>?_;obtain⟨oe,ho,hce⟩:=he.2;have hTe:(⟨h',g,d,t',os⟩:Shared).TypeIs (.ref e) "AttributeError":=⟨_,ho,hce⟩;have f6:=F.gH;have hq':=hq h' t' e he
 repeat (any_goals (first|assumption|wp_step))
theorem g7{Q:Option Value->Shared->Prop}(hh:A.handled=none)(hx:h.get? a=some o)(hc:o.cls=.type "list"){its:Array Value}{n:Nat}(hd:o.data=.seq its n)(hn:o.dict=none)
  (hq:∀h' t',(∀b ob,h.get? b=some ob->h'.get? b=some ob)->Q none ⟨h',g,d,t',os⟩):wpAny (model prog w) A (getAttr? (.ref a) "keys") Q E ⟨h,g,d,t,os⟩:=by
 unfold getAttr? getAttrBy?;refine uE (wpAny_mkText ?_);refine uE (wpAny_attempt (jz hh hx hc hd hn fun h' t' e he=>?_));obtain⟨oe,ho,hce⟩:=he.2;dsimp only;refine uE (wpAny_isInstance (T:="AttributeError") (b:=true) ⟨_,ho,hce⟩ F.gH ?_);rw[uM rfl];exact uG (hq _ _ he.1)
end
end PySem
namespace LO
inductive Dr|e|n|w|s
deriving DecidableEq
namespace Dr
noncomputable def lf:Dr->Dr|e=>n|n=>w|w=>s|s=>e
noncomputable def rt:Dr->Dr|e=>s|s=>w|w=>n|n=>e
noncomputable def dx:Dr->Int|e=>1|n=>0|w=>-1|s=>0
noncomputable def dy:Dr->Int|e=>0|n=>1|w=>0|s=>-1
noncomputable def cx:Dr->Int->Int|e,x=>x|n,x=>x-1|w,x=>x-1|s,x=>x
noncomputable def cy:Dr->Int->Int|e,y=>y|n,y=>y|w,y=>y-1|s,y=>y-1
end Dr
@[ext] structure Sd where
 x:Int
 y:Int
 d:Dr
deriving DecidableEq
noncomputable abbrev Gr:=Int->Int->Bool
noncomputable def at4(G:Gr)(x y:Int)(d:Dr):Bool:=G (d.cx x) (d.cy y)
noncomputable def brd(G:Gr)(s:Sd):Bool:=at4 G s.x s.y s.d&& !at4 G s.x s.y s.d.rt
noncomputable def Sd.ex(s:Sd):Int:=s.x+s.d.dx
noncomputable def Sd.ey(s:Sd):Int:=s.y+s.d.dy
noncomputable def nxt(G:Gr)(s:Sd):Sd:=if brd G ⟨s.ex,s.ey,s.d.lf⟩=true then⟨s.ex,s.ey,s.d.lf⟩else if brd G ⟨s.ex,s.ey,s.d⟩=true then⟨s.ex,s.ey,s.d⟩else⟨s.ex,s.ey,s.d.rt⟩
theorem mD(d:Dr):d.lf.rt=d:=by cases d<;>rfl
theorem tw(d:Dr):d.rt.lf=d:=by cases d<;>rfl
theorem mH(G:Gr)(s:Sd):at4 G s.ex s.ey s.d.lf=at4 G s.x s.y s.d:=by obtain⟨x,y,d⟩:=s;cases d<;>simp[at4,Sd.ex,Sd.ey,Dr.lf,Dr.dx,Dr.dy,Dr.cx,Dr.cy]<;>congr 1<;>omega
theorem pE(G:Gr)(s:Sd):at4 G s.ex s.ey s.d.lf.lf=at4 G s.x s.y s.d.rt:=by obtain⟨x,y,d⟩:=s;cases d<;>simp[at4,Sd.ex,Sd.ey,Dr.lf,Dr.rt,Dr.dx,Dr.dy,Dr.cx,Dr.cy]<;>congr 1<;>omega
theorem rm(d:Dr):d.rt.rt=d.lf.lf:=by cases d<;>rfl
theorem aP{G:Gr}{s:Sd}:brd G s=true<->at4 G s.x s.y s.d=true/\at4 G s.x s.y s.d.rt=false:=by unfold brd;rw[vK,Bool.not_eq_true']
theorem cT{G:Gr}{s:Sd}(h:brd G s=true):nxt G s=⟨s.ex,s.ey,if at4 G s.ex s.ey s.d=false then s.d.lf else if at4 G s.ex s.ey s.d.rt=false then s.d else s.d.rt⟩:=by
 obtain⟨h1,h2⟩:=aP.mp h;have e1:brd G ⟨s.ex,s.ey,s.d.lf⟩= !at4 G s.ex s.ey s.d:=by show(at4 G s.ex s.ey s.d.lf&& !at4 G s.ex s.ey s.d.lf.rt)=_;rw[mH,h1,mD];rfl
 have e2:brd G ⟨s.ex,s.ey,s.d⟩=(at4 G s.ex s.ey s.d&& !at4 G s.ex s.ey s.d.rt):=rfl;unfold nxt;rw[e1,e2];cases at4 G s.ex s.ey s.d<;>cases at4 G s.ex s.ey s.d.rt<;>rfl
theorem qq{G:Gr}{s:Sd}(h:brd G s=true):brd G (nxt G s)=true:=by
 obtain⟨h1,h2⟩:=aP.mp h;rw[cT h,aP];have l:=mH G s;have r:=pE G s;rw[h1]at l;rw[h2]at r;cases a:at4 G s.ex s.ey s.d with
 |false=>show at4 G s.ex s.ey s.d.lf=true/\at4 G s.ex s.ey s.d.lf.rt=false;rw[mD];exact⟨l,a⟩
 |true=>
  cases b:at4 G s.ex s.ey s.d.rt with
  |false=>exact⟨a,b⟩
  |true=>show at4 G s.ex s.ey s.d.rt=true/\at4 G s.ex s.ey s.d.rt.rt=false;rw[rm];exact⟨b,r⟩
theorem kc{G:Gr}{s t:Sd}(h:brd G s=true)(e:nxt G s=t):s=⟨t.x-(if at4 G t.x t.y t.d.lf=false then t.d.rt else if at4 G t.x t.y t.d.rt.rt=false then t.d else t.d.lf).dx,t.y-(if at4 G t.x t.y t.d.lf=false then t.d.rt else if at4 G t.x t.y t.d.rt.rt=false then t.d else t.d.lf).dy,if at4 G t.x t.y t.d.lf=false then t.d.rt else if at4 G t.x t.y t.d.rt.rt=false then t.d else t.d.lf⟩:=by
 obtain⟨h1,h2⟩:=aP.mp h;have l:=mH G s;have r:=pE G s;rw[h1]at l;rw[h2]at r;have key:(if at4 G t.x t.y t.d.lf=false then t.d.rt else if at4 G t.x t.y t.d.rt.rt=false then t.d else t.d.lf)=s.d:=by
  rw[<-e,cT h];cases a:at4 G s.ex s.ey s.d with
  |false=>show(if at4 G s.ex s.ey s.d.lf.lf=false then s.d.lf.rt else _)=_;rw[r,mD];rfl
  |true=>
   cases b:at4 G s.ex s.ey s.d.rt with
   |false=>show(if at4 G s.ex s.ey s.d.lf=false then s.d.rt else if at4 G s.ex s.ey s.d.rt.rt=false then s.d else s.d.lf)=_;rw[l,rm,r];rfl
   |true=>show(if at4 G s.ex s.ey s.d.rt.lf=false then s.d.rt.rt else if at4 G s.ex s.ey s.d.rt.rt.rt=false then s.d.rt else s.d.rt.lf)=_;have x3:s.d.rt.rt.rt=s.d.lf:=(by cases s.d<;>rfl);rw[tw,a,x3,l];rfl
 rw[key];have ex:t.x=s.ex:=by rw[<-e,cT h]
 have ey:t.y=s.ey:=by rw[<-e,cT h]
 rw[ex,ey];ext
 ·show s.x=s.x+s.d.dx-s.d.dx;omega
 ·show s.y=s.y+s.d.dy-s.d.dy;omega
 ·rfl
theorem qp{G:Gr}{s t:Sd}(hs:brd G s=true)(ht:brd G t=true)(e:nxt G s=nxt G t):s=t:=by have a:=kc hs rfl;have b:=kc ht rfl;rw[e]at a;exact a.trans b.symm
noncomputable def itr(G:Gr)(s:Sd):Nat->Sd
 | 0=>s
 |k+1=>nxt G (itr G s k)
theorem bY{G:Gr}{s:Sd}(h:brd G s=true):∀k,brd G (itr G s k)=true
 | 0=>h
 |k+1=>qq (bY h k)
noncomputable def wlk(G:Gr)(s:Sd)(n:Nat):List Sd:=(List.range n).map (itr G s)
theorem gE(G:Gr)(s:Sd)(n:Nat):wlk G s (n+1)=wlk G s n++[itr G s n]:=by unfold wlk;rw[List.range_succ,vW];rfl
theorem pZ{G:Gr}{s:Sd}(h:brd G s=true){n:Nat}(nd:(wlk G s n).Nodup)(ne:itr G s n≠s):itr G s n∉wlk G s n:=fun z=>by
 obtain⟨j,hj,e⟩:=u0.mp z;rw[vD]at hj;cases j with
 |zero=>exact ne e.symm
 |succ j=>
  cases n with
  |zero=>cases hj
  |succ n=>have e':=qp (bY h j) (bY h n) e;have:=vS.mp (List.nodup_iff_pairwise_ne.mp nd) j n (by unfold wlk;rw[uF,wb];omega) (by unfold wlk;rw[uF,wb];omega) (by omega);unfold wlk at this;rw[wR,wR,List.getElem_range,List.getElem_range]at this;exact this e'
structure kJ(G:Gr)(W:List Sd):Prop where
 ex:∃s n,brd G s=true/\0<n/\W=wlk G s n/\itr G s n=s
 nd:W.Nodup
theorem kJ.brd{G:Gr}{W:List Sd}(h:kJ G W):∀t∈W,brd G t=true:=fun t ht=>by obtain⟨s,n,hb,_,rfl,_⟩:=h.ex;obtain⟨j,_,rfl⟩:=u0.mp ht;exact bY hb j
theorem kJ.cl{G:Gr}{W:List Sd}(h:kJ G W):∀t∈W,nxt G t∈W:=fun t ht=>by
 obtain⟨s,n,hb,h0,rfl,e⟩:=h.ex;obtain⟨j,hj,rfl⟩:=u0.mp ht;rw[vD]at hj;by_cases z:j+1=n
 ·have:nxt G (itr G s j)=s:=by
   show itr G s (j+1)=s;rw[z];exact e
  rw[this];exact u0.mpr ⟨0,vD.mpr h0,rfl⟩
 ·exact u0.mpr ⟨j+1,vD.mpr (by omega),rfl⟩
theorem pY{G:Gr}{s:Sd}{n:Nat}{X:Sd->Prop}(cl:∀t,X t->X (nxt G t))(e:itr G s n=s)(ns:¬X s):∀t∈wlk G s n,¬X t:=fun t ht hx=>by
 obtain⟨j,hj,rfl⟩:=u0.mp ht;rw[vD]at hj;have key:∀m,X (itr G s (j+m)):=fun m=>by
  induction m with
  |zero=>exact hx
  |succ m ih=>exact cl _ ih
 have:=key (n-j);rw[show j+(n-j)=n by omega,e]at this;exact ns this
noncomputable abbrev Pt:=Int×Int
noncomputable def Sd.st(s:Sd):Pt:=(s.x,s.y)
noncomputable def Sd.en(s:Sd):Pt:=(s.ex,s.ey)
noncomputable def cor:Dr->List Sd->List Pt
 |_,[]=>[]
 |d,s::W=>if s.d≠d then s.st::cor s.d W else cor s.d W
inductive Chn:Pt->List Sd->Prop
 |nil {p:Pt}:Chn p []
 |cons {p:Pt} {s:Sd} {W:List Sd}:s.st=p->Chn s.en W->Chn p (s::W)
noncomputable def hE:Pt->List Sd->Pt
 |p,[]=>p
 |_,s::W=>hE s.en W
section
variable{A:Type}(op:A->A->A)(u:A)(f:Pt->Pt->A)
noncomputable def cZ:Pt->List Pt->A
 |_,[]=>u
 |c,q::qs=>op (f c q) (cZ q qs)
noncomputable def b9:List Sd->A
 | []=>u
 |s::W=>op (f s.st s.en) (b9 W)
structure jP:Prop where
 as:∀a b c,op (op a b) c=op a (op b c)
 cm:∀a b,op a b=op b a
 un:∀a,op u a=a
 z:∀p,f p p=u
 ln:∀(c:Pt)(d:Dr)(k:Nat),f c (c.1+k*d.dx+d.dx,c.2+k*d.dy+d.dy)=op (f c (c.1+k*d.dx,c.2+k*d.dy)) (f (c.1+k*d.dx,c.2+k*d.dy) (c.1+k*d.dx+d.dx,c.2+k*d.dy+d.dy))
variable{op u f}
theorem gP(h:jP op u f):∀(W:List Sd)(c:Pt)(d:Dr)(k:Nat),Chn (c.1+k*d.dx,c.2+k*d.dy) W->cZ op u f c (cor d W++[hE (c.1+k*d.dx,c.2+k*d.dy) W])=op (f c (c.1+k*d.dx,c.2+k*d.dy)) (b9 op u f W)
 | [],c,d,k,_=>rfl
 |s::W,c,d,k,.cons e t=>by
  have e2:s.en=(s.st.1+s.d.dx,s.st.2+s.d.dy):=rfl;by_cases z:s.d=d
  ·have e3:cor d (s::W)=cor s.d W:=uK (fun y=>y z);have e4:s.en=(c.1+(k+1:Nat)*d.dx,c.2+(k+1:Nat)*d.dy):=by
    rw[e2,e,z];ext
    ·show c.1+k*d.dx+d.dx=c.1+(k+1:Nat)*d.dx;rw[Int.natCast_add,Int.add_mul];omega
    ·show c.2+k*d.dy+d.dy=c.2+(k+1:Nat)*d.dy;rw[Int.natCast_add,Int.add_mul];omega
   have e5:s.en=(c.1+k*d.dx+d.dx,c.2+k*d.dy+d.dy):=(by rw[e2,e,z]);rw[e3,z];show cZ op u f c (cor d W++[hE s.en W])=op _ (op (f s.st s.en) (b9 op u f W));have ih:=gP h W c d (k+1) (by rw[<-e4];exact t);rw[<-e4]at ih;rw[ih,<-h.as,e,e5,h.ln c d k]
  ·have e3:cor d (s::W)=s.st::cor s.d W:=uM z;rw[e3];show op (f c s.st) (cZ op u f s.st (cor s.d W++[hE s.en W]))=op _ (op (f s.st s.en) (b9 op u f W));have e4:s.en=(s.st.1+(1:Nat)*s.d.dx,s.st.2+(1:Nat)*s.d.dy):=by
    rw[e2];ext
    ·show s.st.1+s.d.dx=s.st.1+(1:Nat)*s.d.dx;omega
    ·show s.st.2+s.d.dy=s.st.2+(1:Nat)*s.d.dy;omega
   have ih:=gP h W s.st s.d 1 (by rw[<-e4];exact t);rw[<-e4]at ih;rw[ih,e]
theorem iM(h:jP op u f):∀(qs:List Pt)(c z:Pt),cZ op u f c (qs++[z])=op (cZ op u f c qs) (f ((c::qs).getLast (List.cons_ne_nil _ _)) z)
 | [],c,z=>by show op (f c z) u=op u (f c z);exact h.cm _ _
 |q::qs,c,z=>by show op (f c q) (cZ op u f q (qs++[z]))=op (op (f c q) (cZ op u f q qs)) _;rw[iM h qs q z,h.as];rfl
noncomputable def kR(op:A->A->A)(u:A)(f:Pt->Pt->A):List Pt->A
 | []=>u
 |c::qs=>op (f ((c::qs).getLast (List.cons_ne_nil _ _)) c) (cZ op u f c qs)
theorem n4(h:jP op u f){s:Sd}{W:List Sd}{d:Dr}(hd:s.d≠d)(ch:Chn s.st (s::W))(cl:hE s.st (s::W)=s.st):kR op u f (cor d (s::W))=b9 op u f (s::W):=by
 have e3:cor d (s::W)=s.st::cor s.d W:=uM hd;have e4:s.en=(s.st.1+(1:Nat)*s.d.dx,s.st.2+(1:Nat)*s.d.dy):=by
  show(s.st.1+s.d.dx,s.st.2+s.d.dy)=_;ext
  ·show s.st.1+s.d.dx=s.st.1+(1:Nat)*s.d.dx;omega
  ·show s.st.2+s.d.dy=s.st.2+(1:Nat)*s.d.dy;omega
 cases ch with
 |cons _ t=>have a:=gP h W s.st s.d 1 (by rw[<-e4];exact t);rw[<-e4]at a;have cl':hE s.en W=s.st:=cl;rw[cl',iM h]at a;rw[e3];show op _ (cZ op u f s.st (cor s.d W))=op (f s.st s.en) (b9 op u f W);rw[h.cm,a]
theorem ft(h:jP op u f):∀(V W:List Sd),b9 op u f (V++W)=op (b9 op u f V) (b9 op u f W)
 | [],W=>(h.un _).symm
 |s::V,W=>by show op _ (b9 op u f (V++W))=op (op _ _) _;rw[ft h V W,h.as]
theorem iF(h:jP op u f){V W:List Sd}(p:V.Perm W):b9 op u f V=b9 op u f W:=by
 induction p with
 |nil=>rfl
 |cons x _ ih=>show op _ _=op _ _;rw[ih]
 |swap x y l=>show op _ (op _ _)=op _ (op _ _);rw[<-h.as,<-h.as,h.cm (f y.st y.en)]
 |trans _ _ a b=>exact a.trans b
theorem iG(h:jP op u f):∀(Ws:List (List Sd)),b9 op u f Ws.flatten=Ws.foldr (fun W a=>op (b9 op u f W) a) u
 | []=>rfl
 |W::Ws=>by rw[List.flatten_cons,ft h,iG h Ws];rfl
end
theorem l7{G:Gr}{s:Sd}(h:brd G s=true):∀(n k:Nat),Chn (itr G s k).st ((List.range n).map fun j=>itr G s (k+j))
 | 0,_=>.nil
 |n+1,k=>by
  rw[List.range_succ_eq_map,vp,vU];refine .cons rfl ?_;have e:(itr G s (k+0)).en=(itr G s (k+1)).st:=by show _=(nxt G (itr G s k)).st;rw[cT (bY h k)];rfl
  rw[e];have:=l7 h n (k+1);refine cast (congrArg (Chn _) (List.map_congr_left fun j _=>?_)) this;show itr G s (k+1+j)=itr G s (k+(j+1));congr 1;omega
theorem lZ{G:Gr}{s:Sd}(h:brd G s=true):∀(n k:Nat),hE (itr G s k).st ((List.range n).map fun j=>itr G s (k+j))=(itr G s (k+n)).st
 | 0,_=>rfl
 |n+1,k=>by
  rw[List.range_succ_eq_map,vp,vU];have e:(itr G s (k+0)).en=(itr G s (k+1)).st:=by show _=(nxt G (itr G s k)).st;rw[cT (bY h k)];rfl
  show hE (itr G s (k+0)).en _=_;rw[e];have:=lZ h n (k+1);rw[show k+(n+1)=k+1+n by omega,<-this];congr 1;refine List.map_congr_left fun j _=>?_;show itr G s (k+(j+1))=itr G s (k+1+j);congr 1;omega
theorem lY{G:Gr}{s:Sd}(h:brd G s=true){n:Nat}(e:itr G s n=s):Chn s.st (wlk G s n)/\hE s.st (wlk G s n)=s.st:=by
 have a:=l7 h n 0;have b:=lZ h n 0;have c:((List.range n).map fun j=>itr G s (0+j))=wlk G s n:=by unfold wlk;exact List.map_congr_left fun j _=>by rw[Nat.zero_add]
 rw[c]at a b;rw[Nat.zero_add,e]at b;exact⟨a,b⟩
def oq(p q:Pt):Prop:=p.1<q.1\/(p.1=q.1/\p.2<q.2)
theorem kL{G:Gr}{s:Sd}(h:brd G s=true){n:Nat}(n0:0<n)(e:itr G s n=s)(least:∀t∈wlk G s n,¬oq t.st s.st):s.d≠(itr G s (n-1)).d:=fun z=>by
 have h1:itr G s n=nxt G (itr G s (n-1)):=by obtain⟨m,rfl⟩:∃m,n=m+1:=⟨n-1,by omega⟩;rfl
 have hb:=bY h (n-1);rw[e,cT hb]at h1;have ex:s.x=(itr G s (n-1)).x+(itr G s (n-1)).d.dx:=congrArg Sd.x h1;have ey:s.y=(itr G s (n-1)).y+(itr G s (n-1)).d.dy:=congrArg Sd.y h1;have m1:=least _ (u0.mpr ⟨n-1,vD.mpr (by omega),rfl⟩);rw[<-z]at ex ey;have step:n=1\/itr G s 1∈wlk G s n:=by
  by_cases y:n=1
  ·exact .inl y
  ·exact .inr (u0.mpr ⟨1,vD.mpr (by omega),rfl⟩)
 have e1:(itr G s 1).st=(s.x+s.d.dx,s.y+s.d.dy):=by show(nxt G s).st=_;rw[cT h];rfl
 rcases step with y|y
 ·subst y;have ex':s.x=s.x+s.d.dx:=ex;have ey':s.y=s.y+s.d.dy:=ey;cases hd:s.d<;>rw[hd]at ex' ey'<;>simp[Dr.dx,Dr.dy]at ex' ey'<;>omega
 ·have m2:=least _ y;rw[e1]at m2;have e2:(itr G s (n-1)).st=(s.x-s.d.dx,s.y-s.d.dy):=by
   ext
   ·show(itr G s (n-1)).x=s.x-s.d.dx;omega
   ·show(itr G s (n-1)).y=s.y-s.d.dy;omega
  rw[e2]at m1;cases hd:s.d<;>rw[hd]at m1 m2
  ·exact m1 (.inl (by show s.x-1<s.x;omega))
  ·exact m1 (.inr ⟨by show s.x-0=s.x;omega,by show s.y-1<s.y;omega⟩)
  ·exact m2 (.inl (by show s.x+ -1<s.x;omega))
  ·exact m2 (.inr ⟨by show s.x+0=s.x;omega,by show s.y+ -1<s.y;omega⟩)
theorem nY{s t:Sd}(h1:s.x=t.x)(h2:s.y=t.y)(h3:s.ex=t.ex)(h4:s.ey=t.ey):s=t:=by obtain⟨a,b,d⟩:=s;obtain⟨a',b',d'⟩:=t;have h1:a=a':=h1;have h2:b=b':=h2;subst h1 h2;have h3:a+d.dx=a+d'.dx:=h3;have h4:b+d.dy=b+d'.dy:=h4;cases d<;>cases d'<;>first|rfl|(simp[Dr.dx,Dr.dy]at h3 h4;done)|(simp[Dr.dx,Dr.dy]at h3 h4;omega)
end LO
namespace LO
open LM
noncomputable def grd(w h g:Nat):Gr:=fun x y=>decide (0<=x)&&decide (x<w)&&decide (0<=y)&&decide (y<h)&&g.testBit (y.toNat*w+x.toNat)
end LO
namespace LT
open PySem PySem.Spec PyProof.Rows L2
def Is2(h:Heap)(a:Addr)(p:Int×Int):Prop:=∃o n t u,h.get? a=some o/\o.cls=.type "tuple"/\o.data=.seq #[.int p.1 t,.int p.2 u] n
noncomputable def ltP(p q:Int×Int):Bool:=decide (p.1<q.1)||(decide (p.1=q.1)&&decide (p.2<q.2))
section
variable{prog:Program}{w:World}{A:Around}{E:Value->Shared->Prop}{s:Shared}
theorem Is2.ty{a:Addr}{p:Int×Int}(h:Is2 s.heap a p):s.TypeIs (.ref a) "tuple":=by obtain⟨o,n,t,u,h1,h2,_⟩:=h;exact⟨o,h1,h2⟩
theorem mB{x y:Int}{t u:Tok}{Q:Value->Shared->Prop}(q:Q (.bool (decide (x<y))) s):wpAny (model prog w) A (richCompare .Lt (.int x t) (.int y u)) Q E s:=
 wpAny_richCompare_same (typeIs_int s x t) (typeIs_int s y u) slot_int_lt (call_int_lt ⟨fun z=>(nomatch z),q⟩)
theorem mG{x y:Int}{t u:Tok}{Q:Bool->Shared->Prop}(q:Q (decide (x=y)) s):wpAny (model prog w) A (eqBool (.int x t) (.int y u)) Q E s:=by
 refine wpAny_eqBool_int ?_;have:(x==y)=decide (x=y):=by
  by_cases z:x=y
  ·rw[ve z];exact beq_iff_eq.mpr z
  ·rw[vh z];exact beq_eq_false_iff_ne.mpr z
 rw[this];exact q
theorem ip{a b:Addr}{p r:Int×Int}{P:PySem.Fin->Shared->Prop}(hx:Is2 s.heap a p)(hy:Is2 s.heap b r)(h:P (.done (.ret (.bool (ltP p r)))) s):wpAny (model prog w) A (Builtin.«tuple.__lt__» ⟨[.ref a,.ref b],[]⟩) P E s:=by
 have hTb:=hy.ty;obtain⟨oa,na,t1,t2,hoa,_,hda⟩:=hx;obtain⟨ob,nb,u1,u2,hob,_,hdb⟩:=hy;show wpAny _ _ (isInstance (.ref b) (.type "tuple")>>= _) _ _ s;refine uE (wpAny_isInstance hTb isSubtype_tuple_tuple ?_);simp only[Bool.not_true,vF,if_false];refine uE (wpAny_tupleItemsOf hoa hda ?_);refine uE (wpAny_tupleItemsOf hob hdb ?_);refine uE ?_;show wpAny _ _ (forIn [(Value.int p.1 t1,Value.int r.1 u1),(Value.int p.2 t2,Value.int r.2 u2)] _ _) _ _ s;rw[List.forIn_cons];refine uE (uE (mG ?_));unfold ltP at h;by_cases e:p.1=r.1
 ·rw[ve e]at h ⊢;rw[vh (show ¬p.1<r.1 by omega)]at h;simp only[Bool.not_true,vF,if_false];refine uG ?_;dsimp only;rw[List.forIn_cons];refine uE (uE (mG ?_));by_cases e2:p.2=r.2
  ·rw[ve e2];rw[vh (show ¬p.2<r.2 by omega)]at h;simp only[Bool.not_true,vF,if_false];refine uG ?_;dsimp only;rw[List.forIn_nil];refine uG ?_;exact uG h
  ·rw[vh e2];simp only[Bool.not_false,if_true];refine uE (wpAny_rule ?_);refine uE (mB ?_);exact uE (uG (uG (uG (uG h))))
 ·rw[vh e]at h ⊢;simp only[Bool.not_false,if_true];refine uE (wpAny_rule ?_);refine uE (mB ?_);rw[Bool.false_and,Bool.or_false]at h;exact uE (uG (uG (uG (uG h))))
theorem oO{a b:Addr}{p r:Int×Int}{Q:Value->Shared->Prop}(hu:A.units<cLine)(hx:Is2 s.heap a p)(hy:Is2 s.heap b r)(q:Q (.bool (ltP p r)) s):wpAny (model prog w) A (richCompare .Lt (.ref a) (.ref b)) Q E s:=
 wpAny_richCompare_same_room hx.ty hy.ty F.slot_tuple_lt (wpAny_call_entry F.slot_tuple_lt hx.ty F.entry_tuple_lt (ip hx hy ⟨_,rfl,(fun z=>nomatch z),q⟩) (F.args_tuple_lt_2 _ _)) hu
end
open LO in
noncomputable def sdN(s:LO.Sd):Int:=((s.x*16+s.y)*16+s.ex)*16+s.ey
def iq(s:LO.Sd):Prop:=(0<=s.x/\s.x<16)/\(0<=s.y/\s.y<16)/\(0<=s.ex/\s.ex<16)/\(0<=s.ey/\s.ey<16)
noncomputable def ltS(s t:LO.Sd):Bool:=if(s.x,s.y)=(t.x,t.y)then ltP (s.ex,s.ey) (t.ex,t.ey)else ltP (s.x,s.y) (t.x,t.y)
theorem qz{s t:LO.Sd}(hs:iq s)(ht:iq t):ltS s t=decide (sdN s<sdN t):=by
 obtain⟨a1,a2,a3,a4⟩:=hs;obtain⟨b1,b2,b3,b4⟩:=ht;unfold ltS ltP sdN;generalize s.ex=c at*;generalize s.ey=d at*;generalize t.ex=c' at*;generalize t.ey=d' at*;generalize s.x=a at*;generalize s.y=b at*;generalize t.x=a' at*;generalize t.y=b' at*;rw[wo];by_cases z:(a,b)=(a',b')
 ·rw[uM z];have z1:a=a':=congrArg Prod.fst z;have z2:b=b':=congrArg Prod.snd z;simp only[Bool.or_eq_true,vK,uX];constructor<;>intro h<;>omega
 ·rw[uK z];have z':¬(a=a'/\b=b'):=fun⟨y1,y2⟩=>z (by rw[y1,y2]);simp only[Bool.or_eq_true,vK,uX];constructor<;>intro h<;>omega
noncomputable abbrev AS:=List (Addr×LO.Sd)
noncomputable def codeAt(zs:AS)(a:Addr):Int:=((zs.find? fun z=>decide (z.1=a)).map fun z=>sdN z.2).getD 0
def rf(zs:AS):Prop:=∀z∈zs,∀y∈zs,z.1=y.1->z.2=y.2
theorem fZ{zs:AS}(h:rf zs){z:Addr×LO.Sd}(hz:z∈zs):codeAt zs z.1=sdN z.2:=by
 unfold codeAt;cases e:zs.find? fun y=>decide (y.1=z.1)with
 |none=>exact absurd (List.find?_eq_none.mp e z hz) (by simp)
 |some y=>
  have e1:y.1=z.1:=by have:=List.find?_some e;simpa using this
  exact congrArg sdN (h y (List.mem_of_find?_eq_some e) z hz e1)
noncomputable abbrev oU(zs:AS):KN where
 kn:=fun p=>match p.1 with| .ref a=>codeAt zs a|_=>0
 isK:=fun p=>∃z∈zs,p=(.ref z.1,.ref z.1)
 kd:=tuples' false
def iD(h:Heap)(a:Addr)(s:LO.Sd):Prop:=∃o n p q,h.get? a=some o/\o.cls=.type "tuple"/\o.data=.seq #[.ref p,.ref q] n/\Is2 h p (s.x,s.y)/\Is2 h q (s.ex,s.ey)
section
variable{prog:Program}{w:World}{A:Around}{E:Value->Shared->Prop}{s:Shared}
theorem Is2.key{h:Heap}{a:Addr}{p:Int×Int}(k:Is2 h a p):IsTupleKey (ba prog w) h [.inl p.1,.inl p.2] a:=by obtain⟨o,n,t,u,h1,h2,h3⟩:=k;exact⟨o,_,n,h1,h2,h3,.cons (oZ (k:=.inl p.1) ⟨t,rfl⟩) (.cons (oZ (k:=.inl p.2) ⟨u,rfl⟩) .nil)⟩
theorem lH{a b:Addr}{p r:Int×Int}{Q:Bool->Shared->Prop}(hu:A.units<cLine)(hx:Is2 s.heap a p)(hy:Is2 s.heap b r)(q:Q (decide (p=r)) s):wpAny (model prog w) A (eqBool (.ref a) (.ref b)) Q E s:=by
 refine wpAny_eqBool_tuple (knd:=ba prog w) hu hx.key hy.key ?_;have:decide (([.inl p.1,.inl p.2]:List Key)=[.inl r.1,.inl r.2])=decide (p=r):=by
  rw[wo,uX,uX];constructor
  ·intro h;obtain⟨h1,h2⟩:=vC h;exact Prod.ext (Sum.inl.inj h1) (Sum.inl.inj (vC h2).1)
  ·intro h;rw[h]
 rw[this];exact q
theorem qy{a b:Addr}{x y:LO.Sd}{Q:Bool->Shared->Prop}(hu:A.units<cLine)(ha:iD s.heap a x)(hb:iD s.heap b y)(q:Q (ltS x y) s):wpAny (model prog w) A (keyLt' (tuples' false) (.ref a) (.ref b)) Q E s:=by
 obtain⟨o,n,p1,p2,e1,e2,e3,e4,e5⟩:=ha;obtain⟨o',n',q1,q2,f1,f2,f3,f4,f5⟩:=hb;refine PySem.W.kat_lt e1 e3 f1 f3 ?_;show PySem.W.KatLex prog w A false _ Q [(.ref p1,.ref q1),(.ref p2,.ref q2)] 0 s;unfold ltS at q;have one:∀{c d:Addr}{u v:Int×Int},Is2 s.heap c u->Is2 s.heap d v->Q (ltP u v) s->wpAny (model prog w) A (oneLt' false (.ref c) (.ref d)) Q (fun _ _=>False) s:=fun h1 h2 h3=>PySem.W.kat_one _ _ (oO hu h1 h2 h3);refine PySem.W.kat_cons (lH hu e4 f4 (PySem.W.kat_go (fun z=>?_) (fun z=>?_)))
 ·rw[uM (wu z)]at q;refine PySem.W.kat_yes (PySem.W.kat_cons (lH hu e5 f5 (PySem.W.kat_go (fun y'=>?_) (fun y'=>?_))))
  ·refine PySem.W.kat_yes (PySem.W.kat_nil ?_);have y2:=wu y';have:ltP (x.ex,x.ey) (y.ex,y.ey)=false:=by
    rw[y2];unfold ltP;rw[vh (Int.lt_irrefl _),vh (Int.lt_irrefl _),Bool.and_false];rfl
   rw[this]at q;exact q
  ·exact PySem.W.kat_no (one e5 f5 q)
 ·rw[uK (of_decide_eq_false z)]at q;exact PySem.W.kat_no (one e4 f4 q)
theorem nB{zs:AS}(hu:A.units<cLine)(hz:∀z∈zs,iD s.heap z.1 z.2)(ok:∀z∈zs,iq z.2)(one:rf zs): @ij prog w A E s (oU zs):=by letI:=oU zs;refine⟨fun {st x y Q} hk hx hy h=>?_⟩;obtain⟨z,mz,rfl⟩:=hx;obtain⟨y,my,rfl⟩:=hy;rw[lt'_eq];refine uH (wpS_get ?_);rw[hk];refine uH (wpS_lift (wpAny_attempt (qy hu (hz z mz) (hz y my) ⟨rfl,?_⟩)));refine uJ ?_;have e1:KN.kn (.ref z.1,.ref z.1)=sdN z.2:=fZ one mz;have e2:KN.kn (.ref y.1,.ref y.1)=sdN y.2:=fZ one my;rw[e1,e2,<-qz (ok z mz) (ok y my)]at h;exact h
noncomputable def ax(zs:AS):List Value:=zs.map fun z=>.ref z.1
theorem iD.keep{h h':Heap}{a:Addr}{x:LO.Sd}(k:∀b o,h.get? b=some o->o.cls=.type "tuple"->h'.get? b=some o)(i:iD h a x):iD h' a x:=by have k2:∀{b:Addr}{p:Int×Int},Is2 h b p->Is2 h' b p:=fun⟨o,n,t,u,h1,h2,h3⟩=>⟨o,n,t,u,k _ _ h1 h2,h2,h3⟩;obtain⟨o,n,p,q,h1,h2,h3,h4,h5⟩:=i;exact⟨o,n,p,q,k _ _ h1 h2,h2,h3,k2 h4,k2 h5⟩
theorem nE{zs:AS}(hz:∀z∈zs,iD s.heap z.1 z.2)(h2:zs≠[]){Q:SortKind->Shared->Prop}(q:Q (tuples' false) s):wpAny (model prog w) A (keyKind' (ax zs).toArray) Q E s:=by
 have key:∀v∈ax zs,∃x,s.TypeIs (.ref x) "tuple"/\∀{R:Option Value->Shared->Prop},R (some (.ref x)) s->wpAny (model prog w) A (firstOfTuple' v) R E s:=fun v hv=>by obtain⟨z,mz,rfl⟩:=u0.mp hv;obtain⟨o,n,p1,p2,e1,e2,e3,e4,e5⟩:=hz z mz;refine⟨p1,e4.ty,fun {R} r=>?_⟩;rw[firstT];refine uE (wpAny_typeOf (T:="tuple") ⟨o,e1,e2⟩ ?_);rw[uK (by simp)];exact uE (listItems_at e1 e3 (uG r))
 have gex:∀v:Value,∃u:Value,v∈ax zs->(∃x,u=.ref x/\s.TypeIs (.ref x) "tuple")/\∀{R:Option Value->Shared->Prop},R (some u) s->wpAny (model prog w) A (firstOfTuple' v) R E s:=fun v=>by
  by_cases hv:v∈ax zs
  ·obtain⟨x,t,h⟩:=key v hv;exact⟨.ref x,fun _=>⟨⟨x,rfl,t⟩,h⟩⟩
  ·exact⟨.none,fun z=>absurd z hv⟩
 let g:Value->Value:=fun v=>(gex v).choose;have hg:∀v∈ax zs,(∃x,g v=.ref x/\s.TypeIs (.ref x) "tuple")/\∀{R:Option Value->Shared->Prop},R (some (g v)) s->wpAny (model prog w) A (firstOfTuple' v) R E s:=fun v hv=>(gex v).choose_spec hv;rw[keyKind'_eq,List.mapM_toArray,<-bind_pure_comp];refine uE (uE (fm (g:=fun v=>some (g v)) (fun v hv {R} r=>(hg v hv).2 r) (uG ?_)));have c1:((ax zs).map fun v=>some (g v)).toArray.all (·.isSome)=true:=by simp
 rw[uM c1];have e1:((ax zs).map fun v=>some (g v)).toArray.filterMap id=((ax zs).map g).toArray:=by simp[List.filterMap_toArray,List.filterMap_map]
 refine uE (wpAny_rule ?_);rw[e1,oneTypeOnly'_eq,List.mapM_toArray,<-bind_pure_comp];refine uE (uE (uE (fm (f:=typeOf) (g:=fun _=>Value.type "tuple") (fun v hv {R} r=>?_) (uG ?_))))
 ·obtain⟨u,hu,rfl⟩:=u0.mp hv;obtain⟨x,e,t⟩:=(hg u hu).1;rw[e];exact wpAny_typeOf t r
 ·have hl:(((ax zs).map g).map fun _=>Value.type "tuple").toArray[0]?=some (Value.type "tuple"):=by
   cases zs with
   |nil=>exact absurd rfl h2
   |cons z zs=>simp[ax]
  rw[hl];have ha:(((ax zs).map g).map fun _=>Value.type "tuple").toArray.all (·==Value.type "tuple")=true:=by simp only[List.all_toArray,List.all_map,List.all_eq_true];intro _ _;rfl
  refine uG ?_;rw[ha];exact uG q
theorem m4{a:Addr}{zs:AS}{n:Nat}{P:PySem.Fin->Shared->Prop}(ho:s.heap.get? a=some (seqObj "list" (ax zs).toArray n))(hu:A.units<cLine)(hz:∀z∈zs,iD s.heap z.1 z.2)(ok:∀z∈zs,iq z.2)(one:rf zs)(h64:zs.length<1000)
  (h:∀ys:AS,ys.Perm zs->(ys.map fun z=>sdN z.2).Pairwise (·<=·)->P (.done (.ret .none)) {s with heap:=sortedHeap s.heap a (ax zs) (ax ys).toArray}):
  wpAny (model prog w) A (Builtin.«list.sort» ⟨[.ref a],[]⟩) P E s:=by
 rw[list_sort_plain];have ha:a<s.heap.objs.size:=uU ho;have lz:(ax zs).length=zs.length:=uF ..;refine uE (listItems_at ho rfl ?_);refine uE (listUpdate_at ho rfl ?_ (by rw[uZ,lz,wg];omega) (vN _));obtain⟨e1,ho1⟩:∃e1,(s.heap.update a (Obj.mapSeq fun _=> #[])).get? a=some (seqObj "list" #[] e1):=⟨_,get?_update_seq ho (fun _=> #[])⟩;refine uE (seqEpoch_at ho1 rfl ?_);refine uE (wpAny_newTuple ?_ (by show(ax zs).length<=_;rw[lz,wg];omega));refine uE (wpAny_newList ?_ (vN _));refine wpAny_holding ?_;have ho6:(((s.heap.update a (Obj.mapSeq fun _=> #[])).push (seqObj "tuple" (ax zs).toArray 0)).push (seqObj "list" #[] 0)).get? a=some (seqObj "list" #[] e1):=uI _ (uI _ ho1);have hz6:∀z∈zs,iD (((s.heap.update a (Obj.mapSeq fun _=> #[])).push (seqObj "tuple" (ax zs).toArray 0)).push (seqObj "list" #[] 0)) z.1 z.2:=fun z mz=>by
  refine(hz z mz).keep fun b o f1 f2=>?_;have na:b≠a:=fun w=>by rw[w,ho]at f1;cases f1;have f2':Value.type "list"=Value.type "tuple":=f2;exact absurd f2' (by decide)
  exact uI _ (uI _ (((Heap.SameBut.update s.heap a _).2 b na).trans f1))
 show wpAny (model prog w) A _ P E {s with heap:=((s.heap.update a (Obj.mapSeq fun _=> #[])).push (seqObj "tuple" (ax zs).toArray 0)).push (seqObj "list" #[] 0)};dsimp only;have pz:(pairsOf (ax zs)).toList=zs.map fun z=>((.ref z.1,.ref z.1):Keyed):=by rw[pairsOf_toList];unfold ax;rw[List.zip_map']
 have outL:∀{ar:Array Keyed}{ys:AS},ar.toList=ys.map (fun z=>((.ref z.1,.ref z.1):Keyed))->ar.map (·.2)=(ax ys).toArray:=fun {ar ys} e=>by apply Array.ext';rw[Array.toList_map,e,vU];rfl
 by_cases h2:(ax zs).toArray.size<2
 ·rw[uM h2,uM h2];refine uE (uG ?_);rw[StateT.run_pure];refine uE (uG ?_);dsimp only;refine uE (seqEpoch_at ho6 rfl ?_);have eo:=outL (ar:=pairsOf (ax zs)) (ys:=zs) pz;refine uE (listUpdate_at ho6 rfl ?_ (vN _) (by show((pairsOf (ax zs)).map (·.2)).size<=_;rw[eo,uZ,lz,wg];omega));simp only[bne_self_eq_false,vF,if_false];refine uG ?_;show P _ {s with heap:=(((s.heap.update a (Obj.mapSeq fun _=> #[])).push (seqObj "tuple" (ax zs).toArray 0)).push (seqObj "list" #[] 0)).update a (Obj.mapSeq fun _=>(pairsOf (ax zs)).map (·.2))};rw[eo];refine h zs (.refl _) ?_;rw[uZ,lz]at h2
  match zs,h2 with
  | [],_=>exact .nil
  | [z],_=>exact wC _ _
 ·rw[uK h2,uK h2];rw[uZ,lz]at h2;refine uE (nE hz6 (fun w=>h2 (by rw[w];decide)) ?_);letI:=oU zs;haveI:ij prog w A E {s with heap:=((s.heap.update a (Obj.mapSeq fun _=> #[])).push (seqObj "tuple" (ax zs).toArray 0)).push (seqObj "list" #[] 0)}:=nB hu hz6 ok one;refine uE (v8 (gb (a₀:=pairsOf (ax zs)) (st:=SortSt.mk' (tuples' false) ((ax zs).toArray.zip (ax zs).toArray) #[] 7 none) (Q:=fun _ st'=>(arrOf st').Perm (pairsOf (ax zs))/\failedOf st'=none/\SortedTo (arrOf st') (pairsOf (ax zs)).size) (fun p hp=>?_) (Array.Perm.refl _) rfl rfl rfl (by rw[pairsOf_size,lz];omega) fun st' q1 q2 q3=>⟨q1,q2,q3⟩) ?_ fun _ _ e=>e)
  ·rw[pz]at hp;obtain⟨z,mz,rfl⟩:=u0.mp hp;exact⟨z,mz,rfl⟩
  rintro⟨⟨⟩,st'⟩ s' ⟨rfl,hp,hf,hs⟩;dsimp only;obtain⟨ys,py,ey⟩:=eE (f:=fun z:Addr×LO.Sd=>((.ref z.1,.ref z.1):Keyed)) (zs:=zs) (l:=(arrOf st').toList) (by rw[<-pz];exact wN.mp hp);have eo:=outL ey;have ly:(ax ys).length=zs.length:=by rw[ax,uF];exact py.length_eq
  refine uE (seqEpoch_at ho6 rfl ?_);refine uE (listUpdate_at ho6 rfl ?_ (vN _) (by show((arrOf st').map (·.2)).size<=_;rw[eo,uZ,ly,wg];omega));rw[hf];simp only[bne_self_eq_false,vF,if_false];refine uG ?_;rw[eo];refine h ys py ?_;rw[vS];intro i j hi hj hij;rw[uF]at hi hj;have sz:(pairsOf (ax zs)).size=ys.length:=by rw[pairsOf_size,lz];exact py.length_eq.symm
  have le:=hs i j (Nat.le_of_lt hij) (by rw[sz];exact hj);have at_:∀k(hk:k<ys.length),K (arrOf st') k=sdN (ys[k]'hk).2:=fun k hk=>by unfold K;rw[<-uY,ey,vz,va hk];exact fZ one (py.mem_iff.mp (List.getElem_mem hk))
  rw[at_ i hi,at_ j hj]at le;rw[wR,wR];exact le
end
section
variable{X:Cx}
def c0(K:Frag)(H:Hp)(b:Addr)(s:LO.Sd):Prop:=∃p q,SqT K H b [.ref p,.ref q]/\SqT K H p [.int s.x,.int s.y]/\SqT K H q [.int s.ex,.int s.ey]
theorem lM(hu:X.A.units+64<cLine):eI X (.builtin "sorted") (fun xs H Q=>∃(p:Addr)(zs:AS),xs=[.ref p]/\SqL X.K H p (zs.map fun z=>V.ref z.1)/\(∀z∈zs,c0 X.K H z.1 z.2)/\(∀z∈zs,iq z.2)/\zs.length<1000/\
  ∀(l:Addr)(ys:AS),H l=none->ys.Perm zs->(ys.map fun z=>sdN z.2).Pairwise (·<=·)->Q (.ref l) (upd H l (.lst (ys.map fun z=>V.ref z.1)))):=by
 intro pins s σ H xs us Q I r h;obtain⟨p,zs,rfl,hx,hz,ok,h64,q⟩:=h;obtain⟨u,rfl,ru⟩:=vals1 r;cases ru;obtain⟨vs,rv,pl,hzl⟩:=I.list hx;have refs:∀{ys:AS}{us:List Value},Vals (ys.map fun z=>V.ref z.1) us->us=ax ys:=by
  intro ys
  induction ys with
  |nil=>intro us r;cases r;rfl
  |cons z ys ih=>
   intro us r;rw[vp]at r;cases r with
   |cons a b=>cases a;rw[ih b];rfl
 have valsR:∀ys:AS,Vals (ys.map fun z=>V.ref z.1) (ax ys):=by
  intro ys
  induction ys with
  |nil=>exact .nil
  |cons z ys ih=>exact .cons rfl ih
 obtain rfl:=refs rv;have two:∀{b:Addr}{x y:Int},SqT X.K H b [.int x,.int y]->Is2 s.heap b (x,y):=fun {b x y} hb=>by obtain⟨its,rv',⟨o,e1,e2,n,e3⟩,_⟩:=I.tuple hb;obtain⟨v1,v2,rfl,⟨t,rfl⟩,⟨t',rfl⟩⟩:=vals2 rv';exact⟨o,n,t,t',e1,e2,e3⟩
 have tn:∀z∈zs,iD s.heap z.1 z.2:=fun z mz=>by obtain⟨p1,p2,h1,h2,h3⟩:=hz z mz;obtain⟨its,rv',⟨o,e1,e2,n,e3⟩,_⟩:=I.tuple h1;obtain⟨v1,v2,rfl,r1,r2⟩:=vals2 rv';cases r1;cases r2;exact⟨o,n,p1,p2,e1,e2,e3,two h2,two h3⟩
 have one:rf zs:=fun z mz y my e=>by
  obtain⟨p1,p2,h1,h2,h3⟩:=hz z mz;obtain⟨q1,q2,k1,k2,k3⟩:=hz y my;rw[e]at h1;have a:=I.tuple_inj h1 k1;obtain⟨a1,a2⟩:=vC a;have a2':=(vC a2).1;cases a1;cases a2';have b:=I.tuple_inj h2 k2;have c:=I.tuple_inj h3 k3;refine LO.nY ?_ ?_ ?_ ?_
  ·exact V.int.inj (vC b).1
  ·exact V.int.inj (vC (vC b).2).1
  ·exact V.int.inj (vC c).1
  ·exact V.int.inj (vC (vC c).2).1
 have lz:(ax zs).length=zs.length:=uF ..;refine Calls.call_function_entry kind_sorted plain_sorted entry_sorted (args_sorted1 _) ?_;unfold Builtin.«sorted»;refine uE (m:=checkCount "sorted" 1 1 _) (uG ?_);refine uE (collect_list pl.isList ?_ (by rw[lz,wg];omega));refine uE (wpAny_newList ?_ (by show(ax zs).length<=_;rw[lz,wg];omega));have hsz:((s.heap.push (seqObj "list" #[] 0)).update s.heap.objs.size (Obj.mapSeq (·++(ax zs).toArray))).objs.size=s.heap.objs.size+1:=by rw[Heap.size_update,size_push']
 have hoL:(((s.heap.push (seqObj "list" #[] 0)).update s.heap.objs.size (Obj.mapSeq (·++(ax zs).toArray))).push (seqObj "list" (ax zs).toArray 0)).get? (s.heap.objs.size+1)=some (seqObj "list" (ax zs).toArray 0):=by rw[<-hsz];exact vj _ rfl
 have kp:∀b o,s.heap.get? b=some o->(((s.heap.push (seqObj "list" #[] 0)).update s.heap.objs.size (Obj.mapSeq (·++(ax zs).toArray))).push (seqObj "list" (ax zs).toArray 0)).get? b=some o:=fun b o e=>uI _ (((Heap.SameBut.update _ s.heap.objs.size _).2 b (vv (uU e))).trans (uI _ e))
 show wpAny _ _ _ _ _ {s with heap:=((s.heap.push (seqObj "list" #[] 0)).update s.heap.objs.size (Obj.mapSeq (·++(ax zs).toArray))).push (seqObj "list" (ax zs).toArray 0)};rw[hsz];refine uE (wpAny_holding (wpAny_call_entry slot_list_sort ⟨_,hoL,rfl⟩ entry_list_sort (m4 hoL (by simp;omega) (fun z mz=>(tn z mz).keep fun b o e _=>kp _ _ e) ok one h64 fun ys py so=>⟨_,rfl,?_⟩) (args_list_sort _)));refine uG ⟨_,rfl,?_⟩;obtain⟨e,he⟩:=sortedAll_at s.heap (ax zs) (ax ys).toArray;have fr:H (s.heap.objs.size+1)=none:=I.hok.fresh (Nat.le_succ _);have ly:=py.length_eq;exact⟨.ref _,_,I.track (t':=s.toks) (n:=e) (its:=ax ys) (I.fpOk (Nat.le_succ _) fr) (fun b o _ z=>sortedAll_old z) (valsR ys) (by rw[uF,wg];omega) he,rfl,q _ ys fr py so⟩
end
def jM(h:Heap)(a:Addr)(p:Int×Int):Prop:=∃its n b,h.get? a=some {cls:=.type "list",data:=.seq its n}/\its[0]?=some (.ref b)/\Is2 h b p
section
theorem oQ(l b:Addr)(items items2:Array Value)(n n2:Nat)(c d:Addr)(p q:Int×Int)(ne:p≠q)(h1:items[0]?=some (.ref c))(h2:items2[0]?=some (.ref d)):
  Meets (Builtin.«list.__eq__.loop» ⟨[.ref l,.ref b,rawInt ((0:Nat):Int),rawInt 0],[]⟩)
   (fun A R s=>A.in1.units<cLine/\s.heap.get? l=some {cls:=.type "list",data:=.seq items n}/\s.heap.get? b=some {cls:=.type "list",data:=.seq items2 n2}/\Is2 s.heap c p/\Is2 s.heap d q/\R (.ok (.ret (.bool (ltP p q)))) s):=by
 intro prog w A R s h;obtain⟨hp,g,dd,tk,os⟩:=s;obtain⟨hu,hl,hb,hc,hd,h⟩:=h
 wp_walk using wH hl,wH hb
 have hi1:items[((0:Nat):Int).toNat]?=some (.ref c):=h1;have hi2:items2[((0:Nat):Int).toNat]?=some (.ref d):=h2;rw[hi1,hi2];refine uE (lH hu hc hd ?_);rw[vh ne]
 wp_walk using wH hl,wH hb
 rw[hi1,hi2];refine uE (oO hu hc hd ?_)
 wp_walk
 exact h
theorem oP(l:Addr)(items:Array Value)(n:Nat)(self:∀v:Value,(v==v)=true)(k:Nat):
  ∀i:Nat,items.size-i=k->Meets (Builtin.«list.__eq__.loop» ⟨[.ref l,.ref l,rawInt i,rawInt 0],[]⟩)
   (fun _ R s=>s.heap.get? l=some {cls:=.type "list",data:=.seq items n}/\R (.ok (.ret (.bool false))) s):=by
 induction k with
 |zero=>
  intro i hk prog w A R s h;obtain⟨hp,g,d,tk,os⟩:=s;obtain⟨hl,h⟩:=h
  wp_walk using wH hl
  have hi1:items[((i:Nat):Int).toNat]?=none:=by simp;omega
  rw[hi1]
  wp_walk using wH hl
  show R (.ok (.ret (.bool (decide (items.size<items.size))))) _;rw[vh (Nat.lt_irrefl _)];exact h
 |succ k ih=>
  intro i hk prog w A R s h;obtain⟨hp,g,d,tk,os⟩:=s;obtain⟨hl,h⟩:=h
  wp_walk using wH hl
  have hlt:i<items.size:=by omega
  have hi1:items[((i:Nat):Int).toNat]?=some items[i]:=by simp[hlt]
  have hc:((i:Int)+1)=((i+1:Nat):Int):=by push_cast;rfl
  rw[hi1];refine uE (kE (self _) ?_)
  wp_walk
  rw[hc]
  exact⟨plainId_quiet wB _,codeAny_builtin MeetsSeq3.entry_eq_loop (by
   rw[Around.under_plainId wB _]
   exact ih (i+1) (by omega) prog w A R _ ⟨hl,h⟩)⟩
theorem qD(l b:Addr)(items items2:Array Value)(n n2:Nat)(c d:Addr)(p q:Int×Int)(h1:items[0]?=some (.ref c))(h2:items2[0]?=some (.ref d))(hs:p=q->l=b)(self:∀v:Value,(v==v)=true):
  Meets (Builtin.«list.__lt__» ⟨[.ref l,.ref b],[]⟩)
   (fun A R s=>A.in1.units<cLine/\s.heap.get? l=some {cls:=.type "list",data:=.seq items n}/\s.heap.get? b=some {cls:=.type "list",data:=.seq items2 n2}/\Is2 s.heap c p/\Is2 s.heap d q/\R (.ok (.ret (.bool (ltP p q)))) s):=by
 intro prog w A R s h;obtain⟨hp,g,dd,tk,os⟩:=s;obtain⟨hu,hl,hb,hc,hd,h⟩:=h;have f3:=AutoSeq1.sub_list_list
 wp_walk using wH hl,wH hb
 by_cases e:p=q
 ·obtain rfl:=hs e;rw[hl]at hb;cases hb;have e2:ltP p q=false:=by
   rw[e];unfold ltP;rw[vh (Int.lt_irrefl _),vh (Int.lt_irrefl _),Bool.and_false];rfl
  rw[e2]at h
  exact⟨plainId_quiet wB _,codeAny_builtin MeetsSeq3.entry_eq_loop (by
   rw[Around.under_plainId wB _]
   exact oP l items n self _ 0 rfl prog w A R _ ⟨hl,h⟩)⟩
 ·exact⟨plainId_quiet wB _,codeAny_builtin MeetsSeq3.entry_eq_loop (by
   rw[Around.under_plainId wB _]
   exact oQ l b items items2 n n2 c d p q e h1 h2 prog w A R _ ⟨hu,hl,hb,hc,hd,h⟩)⟩
end
section
variable{prog:Program}{w:World}{A:Around}{E:Value->Shared->Prop}{s:Shared}
theorem jM.ty{a:Addr}{p:Int×Int}(h:jM s.heap a p):s.TypeIs (.ref a) "list":=by obtain⟨its,n,b,h1,_⟩:=h;exact⟨_,h1,rfl⟩
theorem tL{a b:Addr}{p r:Int×Int}{Q:Bool->Shared->Prop}(hu:A.units+8<cLine)(ha:jM s.heap a p)(hb:jM s.heap b r)(hs:p=r->a=b)(self:∀v:Value,(v==v)=true)(q:Q (ltP p r) s):wpAny (model prog w) A (keyLt' oneType' (.ref a) (.ref b)) Q E s:=by have ta:=ha.ty;obtain⟨its,n,c,e1,e2,e3⟩:=ha;obtain⟨its',n',d,f1,f2,f3⟩:=hb;rw[keyLt'_oneType,oneLt'_eq];simp only[if_true];refine uE (wpAny_cRoomFor_or (.inr (by omega)) ?_);refine uE (wpAny_callSpecialIfBound?_slot ta F.slot_list_lt (call_meets F.slot_list_lt ta F.entry_list_lt (F.args_list_lt_2 _ _) (qD a b its its' n n' c d p r e2 f2 hs self) ⟨by simp;omega,e1,f1,e3,f3,?_⟩));exact wG q
end
noncomputable abbrev AP:=List (Addr×(Int×Int))
noncomputable def ptN(p:Int×Int):Int:=p.1*16+p.2
def gN(p:Int×Int):Prop:=(0<=p.1/\p.1<16)/\(0<=p.2/\p.2<16)
theorem qA{p q:Int×Int}(hp:gN p)(hq:gN q):ltP p q=decide (ptN p<ptN q):=by obtain⟨a,b⟩:=p;obtain⟨a',b'⟩:=q;obtain⟨h1,h2⟩:=hp;obtain⟨k1,k2⟩:=hq;have h1:0<=a/\a<16:=h1;have h2:0<=b/\b<16:=h2;have k1:0<=a'/\a'<16:=k1;have k2:0<=b'/\b'<16:=k2;show(decide (a<a')||(decide (a=a')&&decide (b<b')))=decide (a*16+b<a'*16+b');rw[wo];simp only[Bool.or_eq_true,vK,uX];constructor<;>intro h<;>omega
noncomputable def rR(zs:AP)(a:Addr):Int:=((zs.find? fun z=>decide (z.1=a)).map fun z=>ptN z.2).getD 0
def rh(zs:AP):Prop:=∀z∈zs,∀y∈zs,z.1=y.1->z.2=y.2
theorem jm{zs:AP}(h:rh zs){z:Addr×(Int×Int)}(hz:z∈zs):rR zs z.1=ptN z.2:=by
 unfold rR;cases e:zs.find? fun y=>decide (y.1=z.1)with
 |none=>exact absurd (List.find?_eq_none.mp e z hz) (by simp)
 |some y=>
  have e1:y.1=z.1:=by have:=List.find?_some e;simpa using this
  exact congrArg ptN (h y (List.mem_of_find?_eq_some e) z hz e1)
noncomputable abbrev oV(zs:AP):KN where
 kn:=fun p=>match p.1 with| .ref a=>rR zs a|_=>0
 isK:=fun p=>∃z∈zs,p=(.ref z.1,.ref z.1)
 kd:=oneType'
theorem r6{zs:AP}(nd:(zs.map (·.2)).Nodup):∀z∈zs,∀y∈zs,z.2=y.2->z.1=y.1:=by
 induction zs with
 |nil=>intro z h;cases h
 |cons r l ih=>
  intro z h1 y h2 e;rw[vp,vM]at nd;rcases vn.mp h1 with a|a
  ·rcases vn.mp h2 with b|b
   ·rw[a,b]
   ·exact absurd (wK (f:=(·.2)) b) (by rw[<-e,a];exact nd.1)
  ·rcases vn.mp h2 with b|b
   ·exact absurd (wK (f:=(·.2)) a) (by rw[e,b];exact nd.1)
   ·exact ih nd.2 z a y b e
section
variable{prog:Program}{w:World}{A:Around}{E:Value->Shared->Prop}{s:Shared}
theorem qB{zs:AP}(hu:A.units+8<cLine)(hz:∀z∈zs,jM s.heap z.1 z.2)(ok:∀z∈zs,gN z.2)(nd:(zs.map (·.2)).Nodup)(one:rh zs): @ij prog w A E s (oV zs):=by letI:=oV zs;refine⟨fun {st x y Q} hk hx hy h=>?_⟩;obtain⟨z,mz,rfl⟩:=hx;obtain⟨y,my,rfl⟩:=hy;rw[lt'_eq];refine uH (wpS_get ?_);rw[hk];refine uH (wpS_lift (wpAny_attempt (tL hu (hz z mz) (hz y my) (fun e=>r6 nd z mz y my e) (fun v=>by simp) ⟨rfl,?_⟩)));refine uJ ?_;have e1:KN.kn (.ref z.1,.ref z.1)=ptN z.2:=jm one mz;have e2:KN.kn (.ref y.1,.ref y.1)=ptN y.2:=jm one my;rw[e1,e2,<-qA (ok z mz) (ok y my)]at h;exact h
noncomputable def ay(zs:AP):List Value:=zs.map fun z=>.ref z.1
theorem qJ{zs:AP}(hz:∀z∈zs,jM s.heap z.1 z.2)(h2:zs≠[]){Q:SortKind->Shared->Prop}(q:Q oneType' s):wpAny (model prog w) A (keyKind' (ay zs).toArray) Q E s:=by
 have ty:∀v∈ay zs,s.TypeIs v "list":=fun v hv=>by obtain⟨z,mz,rfl⟩:=u0.mp hv;exact(hz z mz).ty
 rw[keyKind'_eq,List.mapM_toArray,<-bind_pure_comp];refine uE (uE (fm (g:=fun _=>(none:Option Value)) (fun v hv {R} r=>?_) (uG ?_)))
 ·rw[firstT];refine uE (wpAny_typeOf (T:="list") (ty v hv) ?_);rw[uM (by decide)];exact uG r
 have c1:¬((ay zs).map fun _=>(none:Option Value)).toArray.all (·.isSome)=true:=by
  cases zs with
  |nil=>exact absurd rfl h2
  |cons z zs=>simp[ay]
 rw[uK c1];have c2:¬((((ay zs).map fun _=>(none:Option Value)).toArray[0]?.bind id).isSome=true):=by
  cases zs with
  |nil=>exact absurd rfl h2
  |cons z zs=>simp[ay]
 rw[uK c2];rw[oneTypeOnly'_eq,List.mapM_toArray,<-bind_pure_comp];refine uE (uE (uE (fm (f:=typeOf) (g:=fun _=>Value.type "list") (fun v hv {R} r=>wpAny_typeOf (ty v hv) r) (uG ?_))));have hl:((ay zs).map fun _=>Value.type "list").toArray[0]?=some (Value.type "list"):=by
  cases zs with
  |nil=>exact absurd rfl h2
  |cons z zs=>simp[ay]
 rw[hl];have ha:((ay zs).map fun _=>Value.type "list").toArray.all (·==Value.type "list")=true:=by simp only[List.all_toArray,List.all_map,List.all_eq_true];intro _ _;rfl
 refine uG ?_;rw[ha];exact uG q
theorem p8{a:Addr}{zs:AP}{n:Nat}{P:PySem.Fin->Shared->Prop}(ho:s.heap.get? a=some (seqObj "list" (ay zs).toArray n))(hu:A.units+8<cLine)(hz:∀z∈zs,jM s.heap z.1 z.2)(nea:∀z∈zs,z.1≠a)(ok:∀z∈zs,gN z.2)(nd:(zs.map (·.2)).Nodup)(one:rh zs)(h64:zs.length<1000)
  (h:∀ys:AP,ys.Perm zs->(ys.map fun z=>ptN z.2).Pairwise (·<=·)->P (.done (.ret .none)) {s with heap:=sortedHeap s.heap a (ay zs) (ay ys).toArray}):
  wpAny (model prog w) A (Builtin.«list.sort» ⟨[.ref a],[]⟩) P E s:=by
 rw[list_sort_plain];have ha:a<s.heap.objs.size:=uU ho;have lz:(ay zs).length=zs.length:=uF ..;refine uE (listItems_at ho rfl ?_);refine uE (listUpdate_at ho rfl ?_ (by rw[uZ,lz,wg];omega) (vN _));obtain⟨e1,ho1⟩:∃e1,(s.heap.update a (Obj.mapSeq fun _=> #[])).get? a=some (seqObj "list" #[] e1):=⟨_,get?_update_seq ho (fun _=> #[])⟩;refine uE (seqEpoch_at ho1 rfl ?_);refine uE (wpAny_newTuple ?_ (by show(ay zs).length<=_;rw[lz,wg];omega));refine uE (wpAny_newList ?_ (vN _));refine wpAny_holding ?_;have ho6:(((s.heap.update a (Obj.mapSeq fun _=> #[])).push (seqObj "tuple" (ay zs).toArray 0)).push (seqObj "list" #[] 0)).get? a=some (seqObj "list" #[] e1):=uI _ (uI _ ho1);have hz6:∀z∈zs,jM (((s.heap.update a (Obj.mapSeq fun _=> #[])).push (seqObj "tuple" (ay zs).toArray 0)).push (seqObj "list" #[] 0)) z.1 z.2:=fun z mz=>by have kp:∀b o,b≠a->s.heap.get? b=some o->(((s.heap.update a (Obj.mapSeq fun _=> #[])).push (seqObj "tuple" (ay zs).toArray 0)).push (seqObj "list" #[] 0)).get? b=some o:=fun b o na f1=>uI _ (uI _ (((Heap.SameBut.update s.heap a _).2 b na).trans f1));obtain⟨its,n',b,f1,f2,o,n2,t,u,f3,f4,f5⟩:=hz z mz;refine⟨its,n',b,kp _ _ (nea z mz) f1,f2,o,n2,t,u,kp _ _ (fun w=>?_) f3,f4,f5⟩;rw[w,ho]at f3;cases f3;have f4':Value.type "list"=Value.type "tuple":=f4;exact absurd f4' (by decide)
 show wpAny (model prog w) A _ P E {s with heap:=((s.heap.update a (Obj.mapSeq fun _=> #[])).push (seqObj "tuple" (ay zs).toArray 0)).push (seqObj "list" #[] 0)};dsimp only;have pz:(pairsOf (ay zs)).toList=zs.map fun z=>((.ref z.1,.ref z.1):Keyed):=by rw[pairsOf_toList];unfold ay;rw[List.zip_map']
 have outL:∀{ar:Array Keyed}{ys:AP},ar.toList=ys.map (fun z=>((.ref z.1,.ref z.1):Keyed))->ar.map (·.2)=(ay ys).toArray:=fun {ar ys} e=>by apply Array.ext';rw[Array.toList_map,e,vU];rfl
 by_cases h2:(ay zs).toArray.size<2
 ·rw[uM h2,uM h2];refine uE (uG ?_);rw[StateT.run_pure];refine uE (uG ?_);dsimp only;refine uE (seqEpoch_at ho6 rfl ?_);have eo:=outL (ar:=pairsOf (ay zs)) (ys:=zs) pz;refine uE (listUpdate_at ho6 rfl ?_ (vN _) (by show((pairsOf (ay zs)).map (·.2)).size<=_;rw[eo,uZ,lz,wg];omega));simp only[bne_self_eq_false,vF,if_false];refine uG ?_;show P _ {s with heap:=(((s.heap.update a (Obj.mapSeq fun _=> #[])).push (seqObj "tuple" (ay zs).toArray 0)).push (seqObj "list" #[] 0)).update a (Obj.mapSeq fun _=>(pairsOf (ay zs)).map (·.2))};rw[eo];refine h zs (.refl _) ?_;rw[uZ,lz]at h2
  match zs,h2 with
  | [],_=>exact .nil
  | [z],_=>exact wC _ _
 ·rw[uK h2,uK h2];rw[uZ,lz]at h2;refine uE (qJ hz6 (fun w=>h2 (by rw[w];decide)) ?_);letI:=oV zs;haveI:ij prog w A E {s with heap:=((s.heap.update a (Obj.mapSeq fun _=> #[])).push (seqObj "tuple" (ay zs).toArray 0)).push (seqObj "list" #[] 0)}:=qB hu hz6 ok nd one;refine uE (v8 (gb (a₀:=pairsOf (ay zs)) (st:=SortSt.mk' (oneType') ((ay zs).toArray.zip (ay zs).toArray) #[] 7 none) (Q:=fun _ st'=>(arrOf st').Perm (pairsOf (ay zs))/\failedOf st'=none/\SortedTo (arrOf st') (pairsOf (ay zs)).size) (fun p hp=>?_) (Array.Perm.refl _) rfl rfl rfl (by rw[pairsOf_size,lz];omega) fun st' q1 q2 q3=>⟨q1,q2,q3⟩) ?_ fun _ _ e=>e)
  ·rw[pz]at hp;obtain⟨z,mz,rfl⟩:=u0.mp hp;exact⟨z,mz,rfl⟩
  rintro⟨⟨⟩,st'⟩ s' ⟨rfl,hp,hf,hs⟩;dsimp only;obtain⟨ys,py,ey⟩:=eE (f:=fun z:Addr×(Int×Int)=>((.ref z.1,.ref z.1):Keyed)) (zs:=zs) (l:=(arrOf st').toList) (by rw[<-pz];exact wN.mp hp);have eo:=outL ey;have ly:(ay ys).length=zs.length:=by rw[ay,uF];exact py.length_eq
  refine uE (seqEpoch_at ho6 rfl ?_);refine uE (listUpdate_at ho6 rfl ?_ (vN _) (by show((arrOf st').map (·.2)).size<=_;rw[eo,uZ,ly,wg];omega));rw[hf];simp only[bne_self_eq_false,vF,if_false];refine uG ?_;rw[eo];refine h ys py ?_;rw[vS];intro i j hi hj hij;rw[uF]at hi hj;have sz:(pairsOf (ay zs)).size=ys.length:=by rw[pairsOf_size,lz];exact py.length_eq.symm
  have le:=hs i j (Nat.le_of_lt hij) (by rw[sz];exact hj);have at_:∀k(hk:k<ys.length),K (arrOf st') k=ptN (ys[k]'hk).2:=fun k hk=>by unfold K;rw[<-uY,ey,vz,va hk];exact jm one (py.mem_iff.mp (List.getElem_mem hk))
  rw[at_ i hi,at_ j hj]at le;rw[wR,wR];exact le
end
section
variable{X:Cx}
def PlA(K:Frag)(H:Hp)(b:Addr)(p:Int×Int):Prop:=∃v rest,H b=some (.lst (.ref v::rest))/\SqT K H v [.int p.1,.int p.2]
theorem ig(hu:X.A.units+64<cLine):eI X (.builtin "sorted") (fun xs H Q=>∃(p:Addr)(zs:AP),xs=[.ref p]/\SqL X.K H p (zs.map fun z=>V.ref z.1)/\(∀z∈zs,PlA X.K H z.1 z.2)/\(∀z∈zs,gN z.2)/\(zs.map (·.2)).Nodup/\zs.length<1000/\
  ∀(l:Addr)(ys:AP),H l=none->ys.Perm zs->(ys.map fun z=>ptN z.2).Pairwise (·<=·)->Q (.ref l) (upd H l (.lst (ys.map fun z=>V.ref z.1)))):=by
 intro pins s σ H xs us Q I r h;obtain⟨p,zs,rfl,hx,hz,ok,nd,h64,q⟩:=h;obtain⟨u,rfl,ru⟩:=vals1 r;cases ru;obtain⟨vs,rv,pl,hzl⟩:=I.list hx;have refs:∀{ys:AP}{us:List Value},Vals (ys.map fun z=>V.ref z.1) us->us=ay ys:=by
  intro ys
  induction ys with
  |nil=>intro us r;cases r;rfl
  |cons z ys ih=>
   intro us r;rw[vp]at r;cases r with
   |cons a b=>cases a;rw[ih b];rfl
 have valsR:∀ys:AP,Vals (ys.map fun z=>V.ref z.1) (ay ys):=by
  intro ys
  induction ys with
  |nil=>exact .nil
  |cons z ys ih=>exact .cons rfl ih
 obtain rfl:=refs rv;have two:∀{b:Addr}{x y:Int},SqT X.K H b [.int x,.int y]->Is2 s.heap b (x,y):=fun {b x y} hb=>by obtain⟨its,rv',⟨o,e1,e2,n,e3⟩,_⟩:=I.tuple hb;obtain⟨v1,v2,rfl,⟨t,rfl⟩,⟨t',rfl⟩⟩:=vals2 rv';exact⟨o,n,t,t',e1,e2,e3⟩
 have tn:∀z∈zs,jM s.heap z.1 z.2:=fun z mz=>by
  obtain⟨v,rest,h1,h2⟩:=hz z mz;obtain⟨_,its,n,rv',_,e1⟩:=I.lstM h1;cases rv' with
  |cons a b=>cases a;exact⟨_,n,v,e1,rfl,two h2⟩
 have one:rh zs:=fun z mz y my e=>by obtain⟨v,rest,h1,h2⟩:=hz z mz;obtain⟨v',rest',k1,k2⟩:=hz y my;rw[e,k1]at h1;cases h1;have b:=I.tuple_inj h2 k2;exact Prod.ext (V.int.inj (vC b).1) (V.int.inj (vC (vC b).2).1)
 have lz:(ay zs).length=zs.length:=uF ..;refine Calls.call_function_entry kind_sorted plain_sorted entry_sorted (args_sorted1 _) ?_;unfold Builtin.«sorted»;refine uE (m:=checkCount "sorted" 1 1 _) (uG ?_);refine uE (collect_list pl.isList ?_ (by rw[lz,wg];omega));refine uE (wpAny_newList ?_ (by show(ay zs).length<=_;rw[lz,wg];omega));have hsz:((s.heap.push (seqObj "list" #[] 0)).update s.heap.objs.size (Obj.mapSeq (·++(ay zs).toArray))).objs.size=s.heap.objs.size+1:=by rw[Heap.size_update,size_push']
 have hoL:(((s.heap.push (seqObj "list" #[] 0)).update s.heap.objs.size (Obj.mapSeq (·++(ay zs).toArray))).push (seqObj "list" (ay zs).toArray 0)).get? (s.heap.objs.size+1)=some (seqObj "list" (ay zs).toArray 0):=by rw[<-hsz];exact vj _ rfl
 have kp:∀b o,s.heap.get? b=some o->(((s.heap.push (seqObj "list" #[] 0)).update s.heap.objs.size (Obj.mapSeq (·++(ay zs).toArray))).push (seqObj "list" (ay zs).toArray 0)).get? b=some o:=fun b o e=>uI _ (((Heap.SameBut.update _ s.heap.objs.size _).2 b (vv (uU e))).trans (uI _ e))
 show wpAny _ _ _ _ _ {s with heap:=((s.heap.push (seqObj "list" #[] 0)).update s.heap.objs.size (Obj.mapSeq (·++(ay zs).toArray))).push (seqObj "list" (ay zs).toArray 0)};rw[hsz];refine uE (wpAny_holding (wpAny_call_entry slot_list_sort ⟨_,hoL,rfl⟩ entry_list_sort (p8 hoL (by simp;omega) (fun z mz=>?_) (fun z mz=>?_) ok nd one h64 fun ys py so=>⟨_,rfl,?_⟩) (args_list_sort _)))
 ·obtain⟨its,n,b,f1,f2,o,n2,t,u,f3,f4,f5⟩:=tn z mz;exact⟨its,n,b,kp _ _ f1,f2,o,n2,t,u,kp _ _ f3,f4,f5⟩
 ·obtain⟨its,n,b,f1,_⟩:=tn z mz;exact vv (Nat.lt_succ_of_lt (uU f1))
 refine uG ⟨_,rfl,?_⟩;obtain⟨e,he⟩:=sortedAll_at s.heap (ay zs) (ay ys).toArray;have fr:H (s.heap.objs.size+1)=none:=I.hok.fresh (Nat.le_succ _);have ly:=py.length_eq;exact⟨.ref _,_,I.track (t':=s.toks) (n:=e) (its:=ay ys) (I.fpOk (Nat.le_succ _) fr) (fun b o _ z=>sortedAll_old z) (valsR ys) (by rw[uF,wg];omega) he,rfl,q _ ys fr py so⟩
end
end LT
namespace L2
open PySem PySem.Spec PyProof.Rows
section
variable{P:Program}{w:World}
theorem aX.keepT{h h':Heap}{c:Col}{us:List Value}(k:∀b ob,ob.cls=.type "tuple"->h.get? b=some ob->h'.get? b=some ob)(p:aX P w h c us):aX P w h' c us:=by
 induction p with
 |nil=>exact .nil
 |cons p1 _ ih=>obtain⟨o,its,n,h1,h2,h3,h4⟩:=p1;exact .cons ⟨o,its,n,k _ _ h2 h1,h2,h3,h4⟩ ih
theorem bI.keepT{h h':Heap}{c:Col}{a:Addr}(k:∀b ob,ob.cls=.type "tuple"->h.get? b=some ob->h'.get? b=some ob)(p:bI P w h c a):bI P w h' c a:=by obtain⟨l,ob,its,n,p1,p2,p3,p4⟩:=p;exact⟨l,ob,its,n,k _ _ p2 p1,p2,p3,p4.keepT k⟩
theorem jD{h h':Heap}{D:Addr}{xs:List (Col×Addr×Value)}(k:∀b ob,(b=D\/ob.cls=.type "tuple")->h.get? b=some ob->h'.get? b=some ob)(hm:h.DictOfH (bS P w) D xs):h'.DictOfH (bS P w) D xs:=by obtain⟨o,es,ep,h1,h2,h3,h4,h5,h6⟩:=hm;exact⟨o,es,ep,k _ _ (.inl rfl) h1,h2,h3,h4,fun x hx=>bI.keepT (fun b ob e=>k b ob (.inr e)) (h5 x hx),h6⟩
noncomputable def stH(xs:List (Col×Addr×Value)):List (Col×Addr×Value):=xs.foldl (fun a x=>storedH a x.1 x.2.1 x.2.2) []
theorem mf:∀(xs:List (Col×Addr×Value)),(stH xs).length<=xs.length:=by
 have key:∀(xs a:List (Col×Addr×Value)),(xs.foldl (fun a x=>storedH a x.1 x.2.1 x.2.2) a).length<=a.length+xs.length:=by
  intro xs
  induction xs with
  |nil=>exact fun a=>uW _
  |cons x xs ih=>
   intro a;have h1:=ih (storedH a x.1 x.2.1 x.2.2);have h2:(storedH a x.1 x.2.1 x.2.2).length<=a.length+1:=by unfold storedH;split<;>simp
   show(xs.foldl _ (storedH a x.1 x.2.1 x.2.2)).length<=_;rw[wQ];omega
 intro xs;have:=key xs [];rw[List.length_nil]at this;unfold stH;omega
end
section
variable{prog:Program}{w:World}{A:Around}{E:Value->Shared->Prop}{s:Shared}
theorem fM{R:Result->Shared->Prop}(hh:A.handled=none)(hu:A.units+8<cLine){a it D:Addr}{its:Array Value}{kvs:List (Col×Addr×Value)}(hlen:its.size=kvs.length)(hz:kvs.length<=sizeLine)(hne1:a≠it)(hne2:D≠it)(hne3:a≠D)
  (hsD:∀o,s.heap.get? D=some o->o.cls≠ .type "tuple") (hsI:∀o,s.heap.get? it=some o->o.cls≠ .type "tuple")
  (hp:∀(i:Nat)(k:Col)(b:Addr)(u:Value),kvs[i]?=some (k,b,u)->∃p,its[i]?=some (.ref p)/\IsTup s.heap p #[.ref b,u]/\bI prog w s.heap k b):
  ∀(m i:Nat)(s1:Shared),kvs.length-i=m->i<=kvs.length->s1.heap.IsListIter it a i->s1.heap.IsList a its->s1.heap.DictOfH (bS prog w) D (stH (kvs.take i))->
  (∀b ob,b≠D->b≠it->s.heap.get? b=some ob->s1.heap.get? b=some ob)->
  (∀h' tk,h'.DictOfH (bS prog w) D (stH kvs)->(∀b ob,b≠D->b≠it->s.heap.get? b=some ob->h'.get? b=some ob)->R (.ok (.ret .none)) {s1 with heap:=h',toks:=tk})->
  codeAny (model prog w) A (.builtin "dict.update.loop" ⟨[.ref D,.ref it,rawInt i,.none],[]⟩) R s1:=by
 intro m
 induction m with
 |zero=>
  intro i s1 hk hi hit ht hD keep hR;have hin:i=kvs.length:=by omega
  subst hin;refine codeAny_builtin F.dh ?_;rw[Around.under_plainId F.bF _];show wpAny _ A.in1 (pyNext (.ref it)>>= _) _ _ s1;refine uE (wpAny_pyNext_list_end (by simpa using hh) hit ht (by simp[hlen]) fun h' hx=>?_);show wpAny (model prog w) A.in1 (Builtin.Dict.addKeywords D []>>= fun _=>ret Value.none) _ _ _;refine uE (uG (uG ?_));rw[vO]at hD;refine hR h' _ (jD (fun b ob e1 e2=>hx b ob (fun z=>?_) e2) hD) fun b ob h1 h2 e=>hx b ob h2 (keep b ob h1 h2 e);rcases e1 with e1|e1
  ·exact hne2 (e1.symm.trans z)
  ·obtain⟨oi,hoi,hci,_⟩:=hit;rw[z,hoi]at e2;cases e2;rw[hci]at e1;exact absurd e1 (by decide)
 |succ m ih=>
  intro i s1 hk hi hit ht hD keep hR;have hlt:i<kvs.length:=by omega
  obtain⟨⟨k,b0,u⟩,hkv⟩:∃kv,kvs[i]?=some kv:=⟨kvs[i],by simp[hlt]⟩;obtain⟨p,hi1,hp1,hcol⟩:=hp i k b0 u hkv;refine codeAny_builtin F.dh ?_;rw[Around.under_plainId F.bF _];show wpAny _ A.in1 (pyNext (.ref it)>>= _) _ _ s1;have hitc:∀o,s1.heap.get? it=some o->o.cls≠ .type "tuple":=fun o ho=>by obtain⟨oi,hoi,hci,_⟩:=hit;rw[hoi]at ho;cases ho;rw[hci];decide
  refine uE (wpAny_pyNext_list_item hit ht hi1 fun h' hit' hs'=>?_);have keep':∀b ob,b≠D->b≠it->s.heap.get? b=some ob->h'.get? b=some ob:=fun b ob h1 h2 e=>(hs'.2 b h2).trans (keep b ob h1 h2 e);obtain⟨po,hpo,hpc,pn,hpd⟩:=hp1;have tup:∀b ob,ob.cls=.type "tuple"->s.heap.get? b=some ob->h'.get? b=some ob:=fun b ob e1 e2=>keep' b ob (fun z=>hsD ob (by rw[<-z];exact e2) e1) (fun z=>hsI ob (by rw[<-z];exact e2) e1) e2;have hpo':=tup p po hpc hpo;have hcol':=hcol.keepT tup
  have hD':h'.DictOfH (bS prog w) D (stH (kvs.take i)):=jD (fun b ob e1 e2=>(hs'.2 b (fun z=>by
   rcases e1 with e1|e1
   ·exact hne2 (e1.symm.trans z)
   ·exact hitc ob (by rw[<-z];exact e2) e1)).trans e2) hD
  dsimp only;refine uE (wpAny_holding ?_);refine uE (wpAny_tryCatch ?_);unfold Builtin.Dict.pairItems;refine uE (wpAny_typeOf (T:="tuple") ⟨po,hpo',hpc⟩ ?_);rw[uM (by decide)];refine uE (wpAny_seqItems hpo' hpd (uG ?_));show wpAny (model prog w) A.in1 (holding [.ref b0,u] (dictSet D (.ref b0) u)) _ _ _
  refine wpAny_holding (wpAny_dictSet_heap (knd:=bS prog w) (hsz:=by
   have e1:=mf (kvs.take i);rw[vb]at e1
   omega) (show A.in1.units+3<cLine by simp only[Around.in1_units];omega) hcol' hD' fun h2 hD2 hs2=>?_)
  refine uG ⟨plainId_quiet F.bF _,?_⟩;have e2:rawInt (↑i+1)=rawInt ((i+1:Nat):Int):=rfl;rw[e2];refine ih (i+1) _ (by omega) (by omega) ?_ ?_ ?_ (fun b ob h1 h2' e=>(hs2.2 b h1).trans (keep' b ob h1 h2' e)) fun h3 tk3=>hR h3 tk3
  ·obtain⟨oi,hoi,r⟩:=hit';exact⟨oi,(hs2.2 it (Ne.symm hne2)).trans hoi,r⟩
  ·obtain⟨oa,hoa,r⟩:=ht;exact⟨oa,(hs2.2 a hne3).trans ((hs'.2 a hne1).trans hoa),r⟩
  ·have e3:stH (kvs.take (i+1))=storedH (stH (kvs.take i)) k b0 u:=by
    unfold stH;rw[vo,hkv,vu,List.foldl_append];rfl
   rw[e3];exact hD2
theorem f7{Q:Value->Shared->Prop}(hh:A.handled=none)(hu:A.units+20<cLine){a:Addr}{its:Array Value}{n:Nat}{kvs:List (Col×Addr×Value)}(hx:s.heap.get? a=some {cls:=.type "list",data:=.seq its n})(hlen:its.size=kvs.length)(hz:kvs.length<=sizeLine)
  (hp:∀(i:Nat)(k:Col)(b:Addr)(u:Value),kvs[i]?=some (k,b,u)->∃p,its[i]?=some (.ref p)/\IsTup s.heap p #[.ref b,u]/\bI prog w s.heap k b)
  (h:∀h' tk,h'.DictOfH (bS prog w) s.heap.objs.size (stH kvs)->(∀b ob,s.heap.get? b=some ob->h'.get? b=some ob)->Q (.ref s.heap.objs.size) {s with heap:=h',toks:=tk}):
  wpAny (model prog w) A (call (.type "dict") [.ref a]) Q E s:=by
 refine callType_codes (Q₁:=fun obj s₁=>obj=.ref s.heap.objs.size/\s₁={s with heap:=s.heap.push {cls:=.type "dict",data:=.dict #[]}}) F.kt_called_dict (F.kt_typeCall_dict_1 _) F.entry_dict_init (kt_code_dict_new _ ⟨rfl,rfl⟩) ?_;rintro obj s₁ ⟨rfl,rfl⟩;have hnew:(s.heap.push {cls:=.type "dict",data:=.dict #[]}).DictOfH (bS prog w) s.heap.objs.size []:=Heap.DictOfH.new s.heap;have hx':=uI {cls:=.type "dict",data:=.dict #[]} hx;refine⟨hnew.typeIs,F.args_dict_init_2 _ _,?_⟩;unfold Builtin.«dict.__init__»;refine uE ?_;unfold Builtin.Dict.selfAndRest;refine uE (wpAny_notOrdered_dict hnew.typeIs ?_);show wpAny _ _ (pure (s.heap.objs.size,[Value.ref a])) _ _ _;refine uG ?_;show wpAny _ _ (Builtin.Dict.updateFrom "dict.__init__" s.heap.objs.size (.ref a) [] .none) _ _ _;unfold Builtin.Dict.updateFrom;refine uE (wpAny_typeOf (T:="list") ⟨_,hx',rfl⟩ ?_);rw[uM (by decide)];refine uE (g7 (by simpa using hh) hx' rfl rfl rfl fun h1 t1 k1=>?_);rw[uM (show(none:Option Value).isNone=true from rfl)];refine uE (wpAny_rule ?_);have ht1:h1.IsList a its:=⟨_,k1 _ _ hx',rfl,n,rfl⟩;refine uE (Flt.iter_list_ ht1 fun s2 e2 _ _ _=>?_);subst e2;obtain⟨ob0,es0,ep0,hob0,hex0,hdd0,_⟩:=id hnew;have hs0:s.heap.objs.size<h1.objs.size:=uU (k1 _ _ hob0);have ha:=uU hx;have ne1:a≠h1.objs.size:=vv (Nat.lt_trans ha hs0);have ne2:s.heap.objs.size≠h1.objs.size:=vv hs0;have ne3:a≠s.heap.objs.size:=vv ha;refine uG ⟨plainId_quiet F.bF _,?_⟩;have kk:∀b ob,s.heap.get? b=some ob->(h1.push {cls:=.type "list_iterator",data:=.fields #[.ref a,.int 0 0]}).get? b=some ob:=fun b ob e=>uI _ (k1 _ _ (uI _ e));refine fM (s:={s with heap:=h1.push {cls:=.type "list_iterator",data:=.fields #[.ref a,.int 0 0]}}) (by simpa using hh) (by simp;omega) hlen hz ne1 ne2 ne3 ?_ ?_ ?_ kvs.length 0 _ rfl (vN _) ⟨_,vj _ rfl,rfl,rfl⟩ (ht1.push _) ?_ (fun b ob _ _ e=>e) fun h' tk hD keep=>⟨rfl,h h' tk hD fun b ob e=>?_⟩
 ·intro o ho;have:=uI {cls:=.type "list_iterator",data:=.fields #[.ref a,.int 0 0]} (k1 _ _ hob0);rw[this]at ho;cases ho;rw[hex0.1];decide
 ·intro o ho;rw[vj _ rfl]at ho;cases ho;show Value.type "list_iterator"≠Value.type "tuple";decide
 ·intro i k b u e;obtain⟨p,h1',h2,h3⟩:=hp i k b u e;exact⟨p,h1',h2.keeps kk,h3.keepT fun b ob _ e=>kk b ob e⟩
 ·exact jD (fun b ob _ e=>uI _ (k1 _ _ e)) hnew
 ·have lb:=uU e;exact keep b ob (vv lb) (vv (Nat.lt_trans lb hs0)) (kk b ob e)
end
section
variable{X:Cx}
noncomputable def mkT(kvs:CT):CT:=kvs.foldl (fun T x=>cY T x.1 x.2.1 x.2.2) []
theorem rq{kvs:CT}{vs:List (Col×Addr×Value)}(h:CTv kvs vs):CTv (mkT kvs) (stH vs):=by
 have key:∀{kvs:CT}{vs:List (Col×Addr×Value)},CTv kvs vs->∀{T:CT}{us:List (Col×Addr×Value)},CTv T us->CTv (kvs.foldl (fun T x=>cY T x.1 x.2.1 x.2.2) T) (vs.foldl (fun a x=>storedH a x.1 x.2.1 x.2.2) us):=by
  intro kvs vs h
  induction h with
  |nil=>exact fun r=>r
  | @cons x y _ _ a _ ih=>intro T us r;obtain⟨a1,a2,a3⟩:=a;have:=pG (c:=x.1) (b:=x.2.1) a3 r;rw[List.foldl_cons,List.foldl_cons,<-a1,<-a2];exact ih this
 exact key h .nil
theorem qx{kvs:CT}:∀t∈mkT kvs,∃x∈kvs,t.2.1=x.2.1/\t.1=x.1:=by
 have key:∀(kvs T:CT)(S:CT),(∀t∈T,∃x∈S,t.2.1=x.2.1/\t.1=x.1)->(∀x∈kvs,x∈S)->∀t∈kvs.foldl (fun T x=>cY T x.1 x.2.1 x.2.2) T,∃x∈S,t.2.1=x.2.1/\t.1=x.1:=by
  intro kvs
  induction kvs with
  |nil=>exact fun T S h _=>h
  |cons x kvs ih=>
   intro T S h hs;refine ih (cY T x.1 x.2.1 x.2.2) S (fun t ht=>?_) fun y hy=>hs y (uL _ hy);unfold cY at ht;split at ht
   ·obtain⟨u,hu,rfl⟩:=u0.mp ht;obtain⟨z,hz,e1,e2⟩:=h u hu;split
    ·exact⟨z,hz,e1,e2⟩
    ·exact⟨z,hz,e1,e2⟩
   ·rcases uR.mp ht with y|y
    ·exact h t y
    ·rw[uV.mp y];exact⟨x,hs x (uN ..),rfl,rfl⟩
 exact key kvs [] kvs (fun t ht=>nomatch ht) fun x hx=>hx
def rK(P:Program)(w:World)(K:Frag):List V->Hp->VK->Prop:=fun xs H Q=>∃a vs kvs,xs=[.ref a]/\H a=some (.lst vs)/\kvs.length<=1000/\
 Paired (fun v (kv:Col×Addr×V)=>∃r,v=.ref r/\SqT K H r [.ref kv.2.1,kv.2.2]/\d8 K H kv.2.1 kv.1) vs kvs/\∀d o,H d=none->jO P w o (mkT kvs)->(d==sysModules)=false->Q (.ref d) (upd H d (b8 d o))
theorem lN(hc:X.calm=true)(hu:X.A.units+64<cLine):eI X (.type "dict") (rK X.prog X.w X.K):=by
 intro pins s σ H xs us Q I r h;obtain⟨a,vs,kvs,rfl,ha,hz,pr,q⟩:=h;obtain⟨u,rfl,rx⟩:=vals1 r;cases rx;obtain⟨_,its,n,rv,_,ho⟩:=I.lstM ha;have key:∀{vs:List V}{us:List Value}{kvs:CT},Vals vs us->Paired (fun v (kv:Col×Addr×V)=>∃r,v=.ref r/\SqT X.K H r [.ref kv.2.1,kv.2.2]/\d8 X.K H kv.2.1 kv.1) vs kvs->
   ∃ws:List (Col×Addr×Value),CTv kvs ws/\us.length=ws.length/\∀(i:Nat)(k:Col)(b:Addr)(u:Value),ws[i]?=some (k,b,u)->∃p,us[i]?=some (.ref p)/\IsTup s.heap p #[.ref b,u]/\bI X.prog X.w s.heap k b:=by
  intro vs us kvs rv pr
  induction pr generalizing us with
  |nil=>have:=rv.zero;subst this;exact⟨[],.nil,rfl,fun i k b u e=>by simp at e⟩
  | @cons v kv vs' kvs' hv pt ih=>
   obtain⟨r,rfl,hr,hcv⟩:=hv;cases rv with
   | @cons _ w1 _ us' r1 r2=>
    cases r1;obtain⟨ws,k1,k2,k3⟩:=ih r2;obtain⟨its2,rv2,pl2,_⟩:=I.tuple hr;obtain⟨y1,y2,rfl,q1,q2⟩:=vals2 rv2;cases q1;refine⟨(kv.1,kv.2.1,y2)::ws,.cons ⟨rfl,rfl,q2⟩ k1,by simp[k2],fun i k b u e=>?_⟩;cases i with
    |zero=>simp at e;obtain⟨rfl,rfl,rfl⟩:=e;exact⟨r,rfl,pl2,hcv.is I⟩
    |succ i=>obtain⟨p,e1,e2⟩:=k3 i k b u (by simpa using e);exact⟨p,by simpa using e1,e2⟩
 obtain⟨ws,k1,k2,k3⟩:=key rv pr;have lk:=hJ k1;have sl:(1000:Nat)<=sizeLine:=by decide
 refine f7 (kvs:=ws) (I.ok.hd hc) (by omega) ho (by simpa using k2) (by omega) (fun i k b u e=>?_) fun h' tk hD keep=>?_
 ·obtain⟨p,e1,e2⟩:=k3 i k b u e;exact⟨p,by simpa using e1,e2⟩
 ·obtain⟨ob,es,ep,e1,e2,e3,e4,e5,e6⟩:=hD;have hl:=mf ws;have lm:=hJ (rq k1);refine⟨.ref s.heap.objs.size,_,I.laid (t':=tk) (o:=b8 s.heap.objs.size ob) keep (uW _) (jv e1),rfl,q _ ob (I.hok.fresh (uW _)) ⟨e2,by omega,es,ep,_,e3,e4,rq k1,e6⟩ (beq_eq_false_iff_ne.mpr (Ne.symm (vv I.big)))⟩
theorem oz{i o:Expr}{td ty:TE}(hu:X.A.units+64<cLine)(hi:PE X i ty)(ho:PE X o td):PC X .In i o (rE X.prog X.w X.K false ty td):=by
 intro pins s σ H Q I h;refine thn (hi pins s σ H _ I h) fun iv s1 hPz=>L2.ep3 hPz fun y H1 I1 ry q1=>thn (ho pins s1 σ H1 _ I1 q1) fun u s2 hPz=>?_;obtain⟨x,H2,I2,rx,d,ob,T,b,c,ex,hc,ey,hb,q2⟩:=hPz;subst ex ey;cases rx;cases ry;obtain⟨h1,h2,h3,h4⟩:=hc;obtain⟨vs,rv,DD⟩:=h2.dict I2 h1 h4;refine wpAny_in_heap (show X.A.in1.units+3<cLine by simp only[Around.in1_units];omega) (hb.is I2) h3 DD ?_;have e:(atKey vs c).isSome=(atT T c).isSome:=by rcases rz (c:=c) rv with⟨z1,z2⟩|⟨v',p,z1,z2,_⟩<;>rw[z1,z2]<;>rfl
 rw[e];exact⟨.bl _,H2,I2.tok _,rfl,q2⟩
theorem kW{P:Program}{w:World}{K:Frag}{i o:Expr}{td ty:TE}(h1:X.prog=P)(h2:X.w=w)(h3:X.K=K)(hu:X.A.units+64<cLine)(hi:PE X i ty)(ho:PE X o td):PC X .NotIn i o (rE P w K true ty td):=by subst h1 h2 h3;exact iO hu hi ho
end
end L2
namespace L2
open PySem PySem.Spec PyProof.Rows LM
open LT (c0 sdN iq)
open LO (Sd Dr Gr grd brd nxt itr wlk at4)
noncomputable def aI(s:Sd):Col:=[[.inl s.x,.inl s.y],[.inl s.ex,.inl s.ey]]
theorem eM{s t:Sd}(h:aI s=aI t):s=t:=by
 obtain⟨h1,h2⟩:=vC h;have h3:=(vC h2).1;refine LO.nY ?_ ?_ ?_ ?_
 ·exact Sum.inl.inj (vC h1).1
 ·exact Sum.inl.inj (vC (vC h1).2).1
 ·exact Sum.inl.inj (vC h3).1
 ·exact Sum.inl.inj (vC (vC h3).2).1
section
variable{K:Frag}{H H':Hp}{b:Addr}{s:Sd}
theorem bR(h:c0 K H b s):d8 K H b (aI s):=by
 obtain⟨p,q,h1,h2,h3⟩:=h;refine⟨fun r hr k hk=>?_,_,h1,.cons ⟨p,rfl,h2⟩ (.cons ⟨q,rfl,h3⟩ .nil)⟩;rcases vn.mp hr with rfl|hr
 ·rcases vn.mp hk with rfl|hk
  ·rfl
  ·rw[uV.mp hk];rfl
 ·rw[uV.mp hr]at hk;rcases vn.mp hk with rfl|hk
  ·rfl
  ·rw[uV.mp hk];rfl
theorem qX(h:d8 K H b (aI s)):c0 K H b s:=by
 obtain⟨_,xs,h1,h2⟩:=h;cases h2 with
 |cons a t=>
  obtain⟨p,rfl,hp⟩:=a;cases t with
  |cons a' t'=>obtain⟨q,rfl,hq⟩:=a';cases t';exact⟨p,q,h1,hp,hq⟩
theorem aY(t:TK H H')(h:c0 K H b s):c0 K H' b s:=by obtain⟨p,q,h1,h2,h3⟩:=h;exact⟨p,q,t.sq h1,t.sq h2,t.sq h3⟩
end
def cX(K:Frag)(H:Hp)(v:V)(s:Sd):Prop:=∃b,v=.ref b/\c0 K H b s
theorem cX.tk{K:Frag}{H H':Hp}{v:V}{s:Sd}(t:TK H H')(h:cX K H v s):cX K H' v s:=by obtain⟨b,e,h1⟩:=h;exact⟨b,e,aY t h1⟩
def PtE(K:Frag)(H:Hp)(v:V)(p:LO.Pt):Prop:=∃b,v=.ref b/\SqT K H b [.int p.1,.int p.2]
theorem PtE.tk{K:Frag}{H H':Hp}{v:V}{p:LO.Pt}(t:TK H H')(h:PtE K H v p):PtE K H' v p:=by obtain⟨b,e,h1⟩:=h;exact⟨b,e,t.sq h1⟩
end L2
namespace LO
noncomputable def gu(x y:Int):List Sd:=[⟨x,y+1,.s⟩,⟨x,y,.e⟩,⟨x+1,y,.n⟩,⟨x+1,y+1,.w⟩]
theorem gy{x y:Int}{s:Sd}:s∈gu x y<->s.d.cx s.x=x/\s.d.cy s.y=y:=by obtain⟨a,b,d⟩:=s;have e:∀{a b:Int}{d:Dr}{a' b':Int}{d':Dr},((⟨a,b,d⟩:Sd)=⟨a',b',d'⟩)<->a=a'/\b=b'/\d=d':=fun {a b d a' b' d'}=>⟨fun h=>by cases h;exact⟨rfl,rfl,rfl⟩,fun⟨h1,h2,h3⟩=>by rw[h1,h2,h3]⟩;unfold gu;simp only[vn,vX,or_false,e];cases d<;>simp[Dr.cx,Dr.cy]<;>omega
theorem rH(x y:Int):(gu x y).Nodup:=by
 have e:∀{a b:Int}{d:Dr}{a' b':Int}{d':Dr},d≠d'->(⟨a,b,d⟩:Sd)≠⟨a',b',d'⟩:=fun h z=>h (congrArg Sd.d z);unfold gu;refine vM.mpr ⟨fun h=>?_,vM.mpr ⟨fun h=>?_,vM.mpr ⟨fun h=>?_,vM.mpr ⟨vX,List.nodup_nil⟩⟩⟩⟩
 ·simp at h
 ·simp at h
 ·simp at h
noncomputable def Sd.rev(s:Sd):Sd:=⟨s.ex,s.ey,s.d.lf.lf⟩
theorem er(s:Sd):s.rev.x=s.ex/\s.rev.y=s.ey/\s.rev.ex=s.x/\s.rev.ey=s.y:=by
 obtain⟨x,y,d⟩:=s;refine⟨rfl,rfl,?_,?_⟩
 ·cases d<;>simp[Sd.rev,Sd.ex,Dr.lf,Dr.dx]<;>omega
 ·cases d<;>simp[Sd.rev,Sd.ey,Dr.lf,Dr.dy]<;>omega
theorem iT{w h g:Nat}(hw:0<w){s:Sd}:(∃k,k<w*h/\g.testBit k=true/\s∈gu ((k % w:Nat):Int) ((k / w:Nat):Int))<->at4 (grd w h g) s.x s.y s.d=true:=by
 constructor
 ·rintro⟨k,hk,hb,hm⟩;obtain⟨e1,e2⟩:=gy.mp hm;have m:=Nat.mod_lt k hw;have q:k / w<h:=Nat.div_lt_of_lt_mul hk;show grd w h g (s.d.cx s.x) (s.d.cy s.y)=true;rw[e1,e2];unfold grd;have e:k / w*w+k % w=k:=by rw[Nat.mul_comm];exact wJ k w
  rw[ve (Int.natCast_nonneg (k % w)),ve (Int.ofNat_lt.mpr m),ve (Int.natCast_nonneg (k / w)),ve (Int.ofNat_lt.mpr q),vE,vE,e,hb];rfl
 ·intro h';have h':grd w h g (s.d.cx s.x) (s.d.cy s.y)=true:=h';unfold grd at h';simp only[vK,uX]at h';obtain⟨⟨⟨⟨a1,a2⟩,a3⟩,a4⟩,a5⟩:=h';generalize hX:s.d.cx s.x=X at a1 a2 a5;generalize hY:s.d.cy s.y=Y at a3 a4 a5;obtain⟨x,rfl⟩:=vQ a1;obtain⟨y,rfl⟩:=vQ a3;rw[vE,vE]at a5;have x1:x<w:=Int.ofNat_lt.mp a2;have y1:y<h:=Int.ofNat_lt.mp a4;have e1:(y*w+x) % w=x:=by rw[Nat.mul_comm,Nat.mul_add_mod];exact Nat.mod_eq_of_lt x1
  have e2:(y*w+x) / w=y:=by rw[Nat.mul_comm,Nat.mul_add_div hw,Nat.div_eq_of_lt x1,Nat.add_zero]
  refine⟨y*w+x,?_,a5,gy.mpr ⟨by rw[e1];exact hX,by rw[e2];exact hY⟩⟩;have:(y+1)*w<=h*w:=Nat.mul_le_mul_right w y1;rw[Nat.add_mul,Nat.one_mul,Nat.mul_comm h w]at this;omega
theorem jH{G:Gr}{s:Sd}:brd G s=(at4 G s.x s.y s.d&& !at4 G s.rev.x s.rev.y s.rev.d):=by unfold brd;rw[<-pE];rfl
theorem lO{w h g:Nat}(hw:w<=8)(hh:h<=8){s:Sd}(hb:at4 (grd w h g) s.x s.y s.d=true):LT.iq s:=by obtain⟨x,y,d⟩:=s;have h':grd w h g (d.cx x) (d.cy y)=true:=hb;unfold grd at h';simp only[vK,uX]at h';obtain⟨⟨⟨⟨a1,a2⟩,a3⟩,a4⟩,_⟩:=h';unfold LT.iq;cases d<;>simp[Dr.cx,Dr.cy,Sd.ex,Sd.ey,Dr.dx,Dr.dy]at* <;>omega
end LO
namespace L2
theorem sq2{K:Frag}{H:Hp}{b:PySem.Addr}{x y x' y':Int}(h:SqT K H b [.int x,.int y])(e1:x=x')(e2:y=y'):SqT K H b [.int x',.int y']:=by rw[<-e1,<-e2];exact h
end L2
namespace L2
open PySem PySem.Spec PyProof.Rows
noncomputable def pP(K:Frag)(a:Addr):It:=
 ⟨fun i H=>∃xs x,SqL K H a xs/\xs[i]?=some x,fun i H x H'=>∃T v,H T=none/\x=.ref T/\H'=upd H T (.tup [.int (i:Nat),v])/\∀xs,SqL K H a xs->xs[i]?=some v,fun i H=>∃xs,SqL K H a xs/\xs.length=i⟩
theorem kO{P:Program}{w:World}{K:Frag}{elts:List Expr}{x1:Nat}{pos:Pos}(a e it:Addr)(ne:e≠it):Turn P w K (.Tuple elts x1 pos) (pP K a) [e,it] e (fun i h=>(∃old,IsEnum h e it (i:Nat) old)/\h.IsListIter it a i) where
 mem:=by simp
 obj:=fun i h st b hb=>by
  have z:b=e\/b=it:=by simpa using hb
  obtain⟨⟨old,st1⟩,o,st2,c,d⟩:=st;rcases z with rfl|rfl
  ·exact⟨_,st1,fun v z=>by cases z⟩
  ·exact⟨o,st2,fun v z=>by rw[d]at z;cases z⟩
 keep:=fun i h h' st k=>by obtain⟨⟨old,st1⟩,st2⟩:=st;exact⟨⟨old,k e (by simp) _ st1⟩,st2.at fun o g=>k it (by simp) o g⟩
 item:=by
  intro X hP hw hK hc i pins s σ H E I hf st hg;subst hP hw hK;obtain⟨xs,x,hq,hx⟩:=hg;obtain⟨its,rv,p0,hz⟩:=I.list hq;have p:=p0.isList;obtain⟨u,hu,ru⟩:=rv.get hx;obtain⟨⟨old,st1⟩,st2⟩:=st;have fe:=hf e (by simp);have fi:=hf it (by simp);have hai:a≠it:=fun z=>by obtain⟨o,g1,c1,_⟩:=st2;obtain⟨o',g2,c2,_⟩:=p;rw[z,g1]at g2;cases g2;rw[c1]at c2;exact absurd c2 (by decide)
  have hae:a≠e:=fun z=>by obtain⟨o',g2,c2,_⟩:=p;rw[z,st1]at g2;cases g2;have c3:Value.type "enumerate"=Value.type "list":=c2;exact absurd c3 (by decide)
  have lt:i<its.toArray.size:=by have:=(uS.mp hu).1;simpa using this
  have D:Draws X.prog X.w X.A.in1 it [it,a] its.toArray.size (fun i x=>its.toArray[i]?=some x) (fun i h=>h.IsListIter it a i/\h.IsList a its.toArray):=Draws.list (A:=X.A.in1) (I.ok.hd hc) it a hai its.toArray;refine wpAny_pyNext_enum_itemD D st1 ⟨st2,p⟩ lt ne (by simp[ne,Ne.symm hae]) fun y h' tk hy o1 o2 o3 o4 k=>?_;have ey:y=u:=by have z:its.toArray[i]?=some u:=(by simpa using hu);rw[z]at hy;exact(wj hy).symm
  subst ey;refine⟨_,rfl,?_⟩;refine wpAny_letOwnedTupleGo_enum (s:={s with heap:=h',toks:=tk+1}) o1 fun h2 st1' sb=>?_;have nT:s.heap.objs.size≠e:=Nat.ne_of_gt (uU st1);have kk:∀b o,b≠e->b≠it->s.heap.get? b=some o->h2.get? b=some o:=fun b o q1 q2 q=>(sb.2 b q1).trans (k b o q1 q2 q);refine⟨.ref s.heap.objs.size,upd H s.heap.objs.size (.tup [.int (i:Nat),x]),(show Inv X pins σ (upd H s.heap.objs.size (.tup [.int (i:Nat),x])) {s with heap:=h2,toks:=tk+1}from p7 (s:=s) (h':=h2) (t':=tk+1) I kk fe fi (uW _) ?_),rfl,⟨_,x,I.hok.fresh (uW _),rfl,rfl,fun ys hy=>by rw[I.list_inj hy hq];exact hx⟩,⟨⟨_,by simpa using st1'⟩,?_⟩,fun b hb=>?_⟩
  ·exact⟨by show 2<=sizeLine;decide,[.int i tk,y],.cons ⟨tk,rfl⟩ (.cons ru .nil),⟨_,(sb.2 _ nT).trans o3,rfl,_,rfl⟩⟩
  ·exact o2.1.at fun o g=>(sb.2 it (Ne.symm ne)).trans g
  ·have nb:b≠s.heap.objs.size:=by
    have z:b=e\/b=it:=(by simpa using hb);rcases z with rfl|rfl
    ·exact vv (uU st1)
    ·obtain⟨o,g,_⟩:=st2;exact vv (uU g)
   rw[ak nb];exact(hf b hb).1
 done:=by
  intro X hP hw hK hc i pins s σ H E I hf st hg;subst hP hw hK;obtain⟨xs,hq,hx⟩:=hg;obtain⟨its,rv,p0,hz⟩:=I.list hq;have p:=p0.isList;obtain⟨⟨old,st1⟩,st2⟩:=st;obtain⟨f0,f1,f2,f3,f4,f5⟩:=hf it (by simp);have hai:a≠it:=fun z=>by obtain⟨o,g1,c1,_⟩:=st2;obtain⟨o',g2,c2,_⟩:=p;rw[z,g1]at g2;cases g2;rw[c1]at c2;exact absurd c2 (by decide)
  have D:Draws X.prog X.w X.A.in1 it [it,a] its.toArray.size (fun i x=>its.toArray[i]?=some x) (fun i h=>h.IsListIter it a i/\h.IsList a its.toArray):=Draws.list (A:=X.A.in1) (I.ok.hd hc) it a hai its.toArray;have el:i=its.toArray.size:=by have:=rv.length;simp;omega
  exact wpAny_pyNext_enum_endD D st1 ⟨el▸st2,p⟩ fun h' eb=>⟨rfl,I.turned (t':=s.toks) (fun b o hb g=>eb b o hb g) f0 f1 f3 f4 f5⟩
 self:=fun A i s Q E st h=>by obtain⟨⟨old,st1⟩,_⟩:=st;exact wpAny_pyIter_enum st1 h
section
variable{X:Cx}{elts:List Expr}{x1:Nat}{tp:Pos}
def tV(K:Frag)(ta:TA):TI:=fun σ H R=>ta σ H fun vs H1=>∃a,vs=[.ref a]/\(∃xs,SqL K H1 a xs)/\R (pP K a) H1
theorem ov{l:Expr}{ta:TA}{p pos:Pos}(hg:Gl X "enumerate")(hm:X.mg "enumerate"=none)(ha:PA X [l] ta)(hs:starEach [l] X.env=[(false,eval l X.env)]:=by rfl):PI X (.Tuple elts x1 tp) (.Call (.Name "enumerate" p) [l] [] pos) (tV X.K ta):=by
 intro pins s σ H R I h;refine Call_ (gZ I hg hm boot_enumerate (PyProof.Rows.callWith_type1 (thn (ha pos pins s σ H _ I h) fun us s1 hPz=>?_) hs rfl));obtain⟨vs,H1,I1,r1,q1⟩:=hPz;obtain⟨a,e,⟨xs,hq⟩,q⟩:=q1;subst e;cases r1 with
 |cons r rr=>
  cases rr;cases r;obtain⟨its,rv,pt,hz⟩:=I1.list hq;refine call_enumerate_list pt.isList fun h' he hit hsz hk=>?_;refine wpAny_pyIter_enum he ?_;refine⟨s1.heap.objs.size+1,[s1.heap.objs.size+1,s1.heap.objs.size],_,_,H1,rfl,I1.kept (t':=s1.toks) hk,kO a _ _ (Nat.succ_ne_self _),⟨⟨_,he⟩,hit⟩,fun b hb=>?_,q⟩;have z:b=s1.heap.objs.size+1\/b=s1.heap.objs.size:=by simpa using hb
  rcases z with rfl|rfl
  ·exact I1.fpOk (Nat.le_succ _) (I1.hok.fresh (Nat.le_succ _))
  ·exact I1.fpOk (uW _) (I1.hok.fresh (uW _))
end
theorem tY{K:Frag}{a:Addr}{xs:List V}{g:TG}{tt:TT}{te:TE}{σ0:St}{Q:Hp->Prop}{D:Addr}{H:Hp}(Pv:Nat->List V->Hp->Prop)(h0:Pv 0 [] H)(hl:∀i acc H,i<=xs.length->Pv i acc H->SqL K H a xs)
  (hs:∀i x acc H2 T,xs[i]?=some x->Pv i acc H2->H2 T=none->g (.ref T) σ0 (upd H2 T (.tup [.int (i:Nat),x])) fun σ2 H4=>tt σ2 H4 fun b H5=>if b=true then te σ2 H5 fun y H6=>H6 D=some (.lst acc)/\acc.length<sizeLine/\Pv (i+1) (acc++[y]) (upd H6 D (.lst (acc++[y])))else Pv (i+1) acc H5)
  (hd:∀acc H2,Pv xs.length acc H2->Q H2):
  ∃W:Nat->Nat->List V->Hp->Prop,(∃m,W 0 m [] H)/\∀i m acc H2,W i m acc H2->
   ((pP K a).stop i H2/\Q H2)\/((pP K a).go i H2/\∃N:List V->Hp->Prop,(∀acc' H',N acc' H'->∃m',m'<m/\W (i+1) m' acc' H')/\∀x H3,(pP K a).yld i H2 x H3->g x σ0 H3 fun σ2 H4=>tt σ2 H4 fun b H5=>if b=true then te σ2 H5 fun y H6=>H6 D=some (.lst acc)/\acc.length<sizeLine/\N (acc++[y]) (upd H6 D (.lst (acc++[y])))else N acc H5):=by
 refine⟨fun i m acc H=>m=xs.length-i/\i<=xs.length/\Pv i acc H,⟨xs.length,by simp,vN _,h0⟩,?_⟩;rintro i m acc H2 ⟨rfl,hi,p⟩;have q:=hl i acc H2 hi p;by_cases hlt:i<xs.length
 ·refine .inr ⟨⟨xs,xs[i],q,by simp[hlt]⟩,Pv (i+1),fun acc' H' p'=>⟨xs.length-(i+1),by omega,rfl,hlt,p'⟩,fun x H3 y=>?_⟩;obtain⟨T,v,hT,rfl,rfl,y⟩:=y;exact hs i v acc H2 T (y xs q) p hT
 ·have e:i=xs.length:=by omega
  exact .inl ⟨⟨xs,q,e.symm⟩,hd acc H2 (e▸p)⟩
end L2
namespace L2
open PySem PySem.Spec PyProof.Rows
open LO LT
theorem kG:∀(V:List Sd)(d:Dr)(s:Sd),cor d (V++[s])=cor d V++(if s.d≠(V.getLast?.map fun t=>t.d).getD d then[s.st]else[])
 | [],d,s=>rfl
 |t::V,d,s=>by
  have e:((t::V).getLast?.map fun t=>t.d).getD d=(V.getLast?.map fun t=>t.d).getD t.d:=by
   cases V with
   |nil=>rfl
   |cons x V=>rw[List.getLast?_cons_cons,v7 (List.cons_ne_nil x V)];rfl
  rw[e,List.cons_append];show(if t.d≠d then t.st::cor t.d (V++[s])else cor t.d (V++[s]))=(if t.d≠d then t.st::cor t.d V else cor t.d V)++_;rw[kG V t.d s];by_cases z:t.d≠d
  ·rw[uM z,uM z,List.cons_append]
  ·rw[uK z,uK z]
theorem gB:∀(d:Dr)(W:List Sd),(cor d W).length<=W.length
 |_,[]=>uW _
 |d,s::W=>by have:=gB s.d W;unfold cor;split<;>simp<;>omega
theorem mS{α:Type}{xs:List α}{i:Nat}{v:α}(h:xs[i]?=some v):∃v',atI xs ((i:Int)-1)=some v'/\((xs.take i).getLast?.or xs.getLast?)=some v':=by
 have hi:=(uS.mp h).1;cases i with
 |zero=>
  have hn:xs≠[]:=fun z=>by rw[z]at hi;cases hi
  refine⟨xs.getLast hn,?_,?_⟩
  ·have e:=List.dropLast_concat_getLast hn;have:=pM xs.dropLast (xs.getLast hn);rw[e]at this;exact this
  ·rw[List.take_zero,v7 hn];rfl
 |succ i=>
  have hi':i<xs.length:=by omega
  refine⟨xs[i],?_,?_⟩
  ·rw[show(((i+1:Nat):Int)-1)=((i:Nat):Int) by omega];exact aA (va hi')
  ·rw[List.take_succ_eq_append_getElem hi',List.getLast?_concat];rfl
theorem gp{α β:Type}{R:α->β->Prop}{xs:List α}{ys:List β}(p:Paired R xs ys){i:Nat}{v:α}(h:xs[i]?=some v):∃v' y y',atI xs ((i:Int)-1)=some v'/\ys[i]?=some y/\R v y/\((ys.take i).getLast?.or ys.getLast?)=some y'/\R v' y':=by obtain⟨y,hy,r⟩:=aZ p h;obtain⟨v',a1,a2⟩:=mS h;obtain⟨y',b1,b2⟩:=mS hy;refine⟨v',y,y',a1,hy,r,b2,?_⟩;unfold atI at a1 b1;rw[vx p]at a1;obtain⟨j,e1,e2⟩:=Option.bind_eq_some_iff.mp a1;rw[e1]at b1;obtain⟨y2,f1,f2⟩:=aZ p e2;have:some y2=some y':=f1.symm.trans b1;cases this;exact f2
theorem rM{W:List Sd}{i:Nat}{t:Sd}{d:Dr}(h:((W.take i).getLast?.or W.getLast?)=some t):((W.take i).getLast?.map fun s=>s.d).getD ((W.getLast?.map fun s=>s.d).getD d)=t.d:=by
 cases e:(W.take i).getLast? with
 |some x=>rw[e]at h;cases h;rfl
 |none=>rw[e]at h;rw[show W.getLast?=some t from h];rfl
theorem sv{K:Frag}{H:Hp}{b:PySem.Addr}{x y:Int}(h:SqT K H b [.int x,.int y]):IsD K H (dv [.inl x,.inl y]) (.ref b):=.tup h (.cons (.int _) (.cons (.int _) .nil))
theorem qO(d e:Dr):PyData.eqv (dv [.inl d.dx,.inl d.dy]) (dv [.inl e.dx,.inl e.dy])=decide (d=e):=by show PyData.eqvAll (([.inl d.dx,.inl d.dy]:List Key).map cI) (([.inl e.dx,.inl e.dy]:List Key).map cI)=_;rw[jk];cases d<;>cases e<;>decide
structure Kn(T:CT)(S:Sd->Prop):Prop where
 nd:(T.map (·.1)).Nodup
 sub:∀t∈T,∃s,t.1=aI s/\S s
 all:∀s,S s->∃t∈T,t.1=aI s
section
variable{T:CT}{S S':Sd->Prop}
theorem lD:Kn [] fun _=>False:=⟨.nil,fun _ z=>(vX z).elim,fun _ z=>z.elim⟩
theorem Kn.congr(h:Kn T S)(e:∀s,S s<->S' s):Kn T S':=⟨h.nd,fun t ht=>by obtain⟨s,a,b⟩:=h.sub t ht;exact⟨s,a,(e s).mp b⟩,fun s z=>h.all s ((e s).mpr z)⟩
theorem oh(T:CT)(c:Col)(b:Addr)(v:V):(cY T c b v).map (·.1)=if(T.any fun t=>decide (t.1=c))=true then T.map (·.1)else T.map (·.1)++[c]:=by
 unfold cY;split
 ·rw[vU];refine List.map_congr_left fun t _=>?_;show(if t.1=c then(t.1,t.2.1,v)else t).1=t.1;split<;>rfl
 ·rw[vW];rfl
theorem lC(h:Kn T S)(s:Sd)(b:Addr)(v:V):Kn (cY T (aI s) b v) fun t=>S t\/t=s:=by
 have e:=oh T (aI s) b v;have mem:∀c,(∃t∈cY T (aI s) b v,t.1=c)<->((∃t∈T,t.1=c)\/c=aI s):=fun c=>by
  have a1:(∃t∈cY T (aI s) b v,t.1=c)<->c∈(cY T (aI s) b v).map (·.1):=by simp
  have a2:(∃t∈T,t.1=c)<->c∈T.map (·.1):=by simp
  rw[a1,a2,e];by_cases z:(T.any fun t=>decide (t.1=aI s))=true
  ·rw[uM z];refine⟨.inl,fun y=>y.elim id fun y=>?_⟩;obtain⟨t,ht,et⟩:=List.any_eq_true.mp z;rw[y];exact u0.mpr ⟨t,ht,wu et⟩
  ·rw[uK z,uR,uV]
 refine⟨?_,fun t ht=>?_,fun t ht=>?_⟩
 ·rw[e];by_cases z:(T.any fun t=>decide (t.1=aI s))=true
  ·rw[uM z];exact h.nd
  ·rw[uK z];refine wx.mpr ⟨h.nd,wC _ _,fun x hx y hy xy=>z ?_⟩;obtain⟨t,ht,et⟩:=u0.mp hx;rw[uV.mp hy]at xy;exact List.any_eq_true.mpr ⟨t,ht,ve (et.trans xy)⟩
 ·rcases (mem t.1).mp ⟨t,ht,rfl⟩with⟨t',h',e'⟩|e'
  ·obtain⟨s',a,b⟩:=h.sub t' h';exact⟨s',e'.symm.trans a,.inl b⟩
  ·exact⟨s,e',.inr rfl⟩
 ·refine(mem (aI t)).mpr ?_;rcases ht with z|z
  ·exact .inl (h.all t z)
  ·exact .inr (by rw[z])
theorem Kn.at(h:Kn T S)(s:Sd):(L2.atT T (aI s)).isSome=true<->S s:=by
 unfold L2.atT;rw[Option.isSome_map,List.find?_isSome];constructor
 ·rintro⟨t,ht,e⟩;obtain⟨s',a,b⟩:=h.sub t ht;rw[wu e]at a;rw[eM a];exact b
 ·intro z;obtain⟨t,ht,e⟩:=h.all s z;exact⟨t,ht,ve e⟩
theorem Kn.list(h:Kn T S):∃L:List Sd,Paired (fun(t:Col×Addr×V) s=>t.1=aI s) T L/\L.Nodup/\∀s,s∈L<->S s:=by
 have:∀{T:CT},(∀t∈T,∃s,t.1=aI s)->∃L:List Sd,Paired (fun(t:Col×Addr×V) s=>t.1=aI s) T L/\T.map (·.1)=L.map aI:=by
  intro T
  induction T with
  |nil=>exact fun _=>⟨[],.nil,rfl⟩
  |cons t T ih=>intro hs;obtain⟨s,e⟩:=hs t (uN ..);obtain⟨L,p,el⟩:=ih fun u hu=>hs u (uL _ hu);exact⟨s::L,.cons e p,by rw[vp,vp,el,e]⟩
 obtain⟨L,p,e⟩:=this fun t ht=>(h.sub t ht).imp fun _ z=>z.1
 have inj:∀s,aI s∈L.map aI<->s∈L:=fun s=>⟨fun z=>by
  obtain⟨s',a,b⟩:=u0.mp z
  exact eM b▸a,wK⟩
 refine⟨L,p,?_,fun s=>?_⟩
 ·have nd:=h.nd;rw[e]at nd;exact(List.pairwise_map.mp nd).imp fun z y=>z (by rw[y])
 ·rw[<-inj,<-e];constructor
  ·intro z;obtain⟨t,ht,et⟩:=u0.mp z;obtain⟨s',a,b⟩:=h.sub t ht;rw[eM (et.symm.trans a)];exact b
  ·intro z;obtain⟨t,ht,et⟩:=h.all s z;exact u0.mpr ⟨t,ht,et⟩
theorem tS{kvs:CT}:∀{U:List Sd},kvs.map (·.1)=U.map aI->Kn (mkT kvs) (fun s=>s∈U):=by
 have gen:∀(kvs:CT)(U:List Sd)(T:CT)(S:Sd->Prop),Kn T S->kvs.map (·.1)=U.map aI->Kn (kvs.foldl (fun T x=>cY T x.1 x.2.1 x.2.2) T) (fun s=>S s\/s∈U):=by
  intro kvs
  induction kvs with
  |nil=>
   intro U T S h e;cases U with
   |nil=>exact h.congr fun s=>by simp
   |cons=>cases e
  |cons x kvs ih=>
   intro U T S h e;cases U with
   |nil=>cases e
   |cons s U=>rw[vp,vp,List.cons.injEq]at e;rw[List.foldl_cons,e.1];refine(ih U _ _ (lC h s x.2.1 x.2.2) e.2).congr fun t=>?_;rw[vn,or_assoc]
 intro U e;exact(gen kvs U [] _ lD e).congr fun s=>by simp
end
section
variable{P:Program}{w:World}{K:Frag}{H H':Hp}{d b:Addr}{o o':Obj}{T:CT}{c:Col}{v:V}
theorem bT(s:aq H H')(h:cb P w K H d o T):cb P w K H' d o T:=⟨s _ _ h.1,h.2.1,h.2.2.1,fun t ht=>(h.2.2.2 t ht).tk s.tk⟩
theorem iZ(h:cb P w K H d o T)(hb:d8 K H b c)(ho:jO P w o' (cY T c b v)):cb P w K (upd H d (b8 d o')) d o' (cY T c b v):=
 ⟨ab,ho,h.2.2.1,nh (P:=fun t=>d8 K (upd H d (b8 d o')) t.2.1 t.1) (fun t ht=>(h.2.2.2 t ht).tk (TK.obj h.1)) (hb.tk (TK.obj h.1)) fun _ z _=>z⟩
theorem mh{vs:List V}{U:List Sd}(p:Paired (cX K H) vs U):∃zs:AS,vs=zs.map (fun z=>V.ref z.1)/\zs.map (·.2)=U/\∀z∈zs,c0 K H z.1 z.2:=by
 induction p with
 |nil=>exact⟨[],rfl,rfl,fun _ z=>(vX z).elim⟩
 |cons a _ ih=>obtain⟨b,rfl,hb⟩:=a;obtain⟨zs,rfl,rfl,hz⟩:=ih;exact⟨(b,_)::zs,rfl,rfl,fun z hz'=>(vn.mp hz').elim (fun e=>e▸hb) (hz z)⟩
theorem lV:∀{zs:AS},(∀z∈zs,c0 K H z.1 z.2)->Paired (cX K H) (zs.map (fun z=>V.ref z.1)) (zs.map (·.2))
 | [],_=>.nil
 |z::_,h=>.cons ⟨z.1,rfl,h z (uN ..)⟩ (lV fun y hy=>h y (uL _ hy))
end
end L2
namespace LO
open LT
structure LW(G:Gr)(W:List Sd)(s:Sd)(n:Nat):Prop where
 b:brd G s=true
 n0:0<n
 e:W=wlk G s n
 cl:itr G s n=s
 nd:W.Nodup
 least:∀t∈W,¬oq t.st s.st
noncomputable def ff(W:List Sd):Dr:=(W.getLast?.map fun s=>s.d).getD .e
noncomputable def az(W:List Sd):List Pt:=cor (ff W) W
section
variable{G:Gr}{W:List Sd}{s:Sd}{n:Nat}
theorem LW.is(h:LW G W s n):kJ G W:=⟨⟨s,n,h.b,h.n0,h.e,h.cl⟩,h.nd⟩
theorem LW.cons(h:LW G W s n):∃V,W=s::V:=by rw[h.e];obtain⟨m,rfl⟩:∃m,n=m+1:=⟨n-1,by have:=h.n0;omega⟩;unfold wlk;rw[List.range_succ_eq_map];exact⟨_,rfl⟩
theorem LW.last(h:LW G W s n):s.d≠ff W:=by
 have e:=kL h.b h.n0 h.cl (h.e▸h.least);obtain⟨m,rfl⟩:∃m,n=m+1:=⟨n-1,by have:=h.n0;omega⟩;have:ff W=(itr G s m).d:=by rw[h.e,gE,ff,List.getLast?_concat];rfl
 rw[this];exact e
theorem LW.head(h:LW G W s n):∃R,az W=s.st::R:=by obtain⟨V,e⟩:=h.cons;have l:=h.last;unfold az;generalize ff W=d at l;rw[e];exact⟨cor s.d V,uM l⟩
theorem LW.sum{A:Type}{op:A->A->A}{u:A}{f:Pt->Pt->A}(a:jP op u f)(h:LW G W s n):kR op u f (az W)=b9 op u f W:=by obtain⟨V,e⟩:=h.cons;have l:=h.last;have w:=lY h.b h.cl;rw[<-h.e]at w;unfold az;generalize ff W=d at l;rw[e]at w ⊢;exact n4 a l w.1 w.2
theorem LW.dir(h:LW G W s n):s.d=.e\/s.d=.n:=by
 have m:nxt G s∈W:=h.is.cl s (by obtain⟨V,e⟩:=h.cons;rw[e];exact uN ..);have:=h.least _ m;rw[cT h.b]at this;cases z:s.d with
 |e=>exact .inl rfl
 |n=>exact .inr rfl
 |w=>exact(this (by left;show s.x+s.d.dx<s.x;rw[z];show s.x+ -1<s.x;omega)).elim
 |s=>exact(this (by right;exact⟨by show s.x+s.d.dx=s.x;rw[z];show s.x+0=s.x;omega,by show s.y+s.d.dy<s.y;rw[z];show s.y+ -1<s.y;omega⟩)).elim
end
theorem jn{G:Gr}{s t:Sd}(hs:brd G s=true)(ht:brd G t=true)(ds:s.d=.e\/s.d=.n)(dt:t.d=.e\/t.d=.n)(e:s.st=t.st):s=t:=by
 obtain⟨x,y,d⟩:=s;obtain⟨x',y',d'⟩:=t;cases e;have a:=aP.mp hs;have b:=aP.mp ht;rcases ds with z|z
 ·rcases dt with z'|z'
  ·cases z;cases z';rfl
  ·cases z;cases z';have a1:at4 G x y .e=true:=a.1;have b2:at4 G x y .e=false:=b.2;rw[a1]at b2;cases b2
 ·rcases dt with z'|z'
  ·cases z;cases z';have b1:at4 G x y .e=true:=b.1;have a2:at4 G x y .e=false:=a.2;rw[b1]at a2;cases a2
  ·cases z;cases z';rfl
structure Rg(G:Gr)(U:List Sd)(i:Nat)(Ws:List (List Sd)):Prop where
 wk:∀W∈Ws,∃s n,LW G W s n
 nd:Ws.flatten.Nodup
 all:∀s∈U.take i,s∈Ws.flatten
 len:Ws.length<=i
section
variable{G:Gr}{U:List Sd}{i:Nat}{Ws:List (List Sd)}{s:Sd}{n:Nat}
theorem rJ:Rg G U 0 []:=⟨fun _ z=>(vX z).elim,.nil,fun _ z=>by simp at z,uW _⟩
theorem Rg.skip(h:Rg G U i Ws)(hs:U[i]?=some s)(m:s∈Ws.flatten):Rg G U (i+1) Ws:=⟨h.wk,h.nd,fun t ht=>by
 rw[vo,hs,vu,uR,uV]at ht
 exact ht.elim (h.all t) fun z=>z▸m,Nat.le_succ_of_le h.len⟩
theorem Rg.cl(h:Rg G U i Ws):∀t,t∈Ws.flatten->nxt G t∈Ws.flatten:=fun t ht=>by obtain⟨W,hW,m⟩:=wO.mp ht;obtain⟨s,n,l⟩:=h.wk W hW;exact wO.mpr ⟨W,hW,l.is.cl t m⟩
theorem Rg.brd(h:Rg G U i Ws):∀t,t∈Ws.flatten->brd G t=true:=fun t ht=>by obtain⟨W,hW,m⟩:=wO.mp ht;obtain⟨s,n,l⟩:=h.wk W hW;exact l.is.brd t m
theorem Rg.add(h:Rg G U i Ws)(hU:∀t,t∈U<->LO.brd G t=true)(ok:∀t∈U,iq t)(so:U.Pairwise fun s t=>sdN s<=sdN t)(hs:U[i]?=some s)(m:s∉Ws.flatten)(n0:0<n)(e:itr G s n=s)(nd:(wlk G s n).Nodup):
  LW G (wlk G s n) s n/\Rg G U (i+1) (Ws++[wlk G s n]):=by
 have ms:s∈U:=vi hs;have out:=pY h.cl e m;have bs:=(hU s).mp ms;have bt:∀t∈wlk G s n,LO.brd G t=true:=fun t ht=>by obtain⟨j,_,rfl⟩:=u0.mp ht;exact bY bs j
 have L:LW G (wlk G s n) s n:=⟨bs,n0,rfl,e,nd,fun t ht z=>by
  have mt:t∈U:=(hU t).mpr (bt t ht);obtain⟨j,hj⟩:=List.getElem?_of_mem mt;have ji:i<=j:=Nat.le_of_not_lt fun y=>out t ht (h.all t (vi (i:=j) (by rw[List.getElem?_take,uM y];exact hj)));have le:sdN s<=sdN t:=by
   rcases Nat.lt_or_eq_of_le ji with y|y
   ·obtain⟨i1,i2⟩:=uS.mp hs;obtain⟨j1,j2⟩:=uS.mp hj;have:=vS.mp so i j i1 j1 y;rwa[i2,j2]at this
   ·rw[<-y,hs]at hj;cases hj;exact wm _
  obtain⟨a1,a2,a3,a4⟩:=ok s ms;obtain⟨b1,b2,b3,b4⟩:=ok t mt;unfold sdN at le;rcases z with z|⟨z1,z2⟩
  ·have z:t.x<s.x:=z;omega
  ·have z1:t.x=s.x:=z1;have z2:t.y<s.y:=z2
   omega⟩
 refine⟨L,fun W hW=>?_,?_,fun t ht=>?_,?_⟩
 ·rcases uR.mp hW with z|z
  ·exact h.wk W z
  ·rw[uV.mp z];exact⟨s,n,L⟩
 ·rw[wL,List.flatten_singleton];exact wx.mpr ⟨h.nd,nd,fun x hx y hy z=>out y hy (z▸hx)⟩
 ·rw[wL,List.flatten_singleton,uR];rw[vo,hs,vu,uR,uV]at ht;refine ht.elim (fun z=>.inl (h.all t z)) fun z=>.inr ?_;rw[z];exact u0.mpr ⟨0,vD.mpr n0,rfl⟩
 ·rw[uO];exact Nat.succ_le_succ h.len
noncomputable def dD(W:List Sd):Pt:=((az W).head?).getD (0,0)
theorem LW.fst{W:List Sd}(h:LW G W s n):dD W=s.st:=by obtain⟨R,e⟩:=h.head;unfold dD;rw[e];rfl
theorem Rg.unlike:∀{Ws:List (List Sd)},(∀W∈Ws,∃s n,LW G W s n)->Ws.flatten.Nodup->(Ws.map dD).Nodup
 | [],_,_=>.nil
 |W::Ws,hw,nd=>by rw[List.flatten_cons]at nd;obtain⟨_,n2,n3⟩:=wx.mp nd;refine vM.mpr ⟨fun z=>?_,Rg.unlike (fun V hV=>hw V (uL _ hV)) n2⟩;obtain⟨V,hV,e⟩:=u0.mp z;obtain⟨s,n,l⟩:=hw W (uN ..);obtain⟨t,m,k⟩:=hw V (uL _ hV);rw[l.fst,k.fst]at e;have:=jn k.b l.b k.dir l.dir e;obtain⟨W1,e1⟩:=l.cons;obtain⟨V1,e2⟩:=k.cons;exact n3 s (by rw[e1];exact uN ..) s (wO.mpr ⟨V,hV,by rw[e2,this];exact uN ..⟩) rfl
end
theorem eE{α β:Type}{f:α->β}{ys zs:List β}(p:ys.Perm zs):∀{l:List α},zs=l.map f->∃k:List α,k.Perm l/\ys=k.map f:=by
 induction p with
 |nil=>exact fun {l} e=>⟨l,.refl _,e⟩
 |cons a _ ih=>
  intro l e;cases l with
  |nil=>cases e
  |cons x l=>cases e;obtain⟨k,q,rfl⟩:=ih rfl;exact⟨x::k,q.cons _,rfl⟩
 |swap a b r=>
  intro l e
  match l,e with
  |x::y::l,e=>cases e;exact⟨y::x::l,.swap _ _ _,rfl⟩
 |trans _ _ h1 h2=>intro l e;obtain⟨k,q,e1⟩:=h2 e;obtain⟨k',q',e2⟩:=h1 e1;exact⟨k',q'.trans q,e2⟩
structure Rs(G:Gr)(Ws:List (List Sd)):Prop where
 wk:∀W∈Ws,∃s n,LW G W s n
 nd:Ws.flatten.Nodup
 all:∀s,s∈Ws.flatten<->brd G s=true
section
variable{G:Gr}{U:List Sd}{i:Nat}{Ws Vs:List (List Sd)}
theorem Rg.rs(r:Rg G U U.length Ws)(hU:∀t,t∈U<->LO.brd G t=true):Rs G Ws:=⟨r.wk,r.nd,fun s=>⟨r.brd s,fun z=>r.all s (by rw[vO];exact(hU s).mpr z)⟩⟩
theorem Rs.perm(r:Rs G Ws)(p:Vs.Perm Ws):Rs G Vs:=⟨fun W hW=>r.wk W (p.mem_iff.mp hW),p.flatten.nodup_iff.mpr r.nd,fun s=>(p.flatten.mem_iff).trans (r.all s)⟩
theorem Rs.sum{A:Type}{op:A->A->A}{u:A}{f:Pt->Pt->A}(a:jP op u f)(r:Rs G Ws):((Ws.map az).map (kR op u f)).foldr op u=b9 op u f Ws.flatten:=by
 rw[iG a];have wk:=r.wk;clear r
 induction Ws with
 |nil=>rfl
 |cons W Ws ih=>obtain⟨s,n,l⟩:=wk W (uN ..);show op (kR _ _ _ (az W)) _=op _ _;rw[l.sum a,ih fun V hV=>wk V (uL _ hV)]
end
theorem gA:∀{W:List Sd}{d:Dr}{p:Pt},p∈cor d W->∃s∈W,p=s.st
 |s::W,d,p,h=>by
  have:p=s.st\/p∈cor s.d W:=by
   unfold cor at h;split at h
   ·exact vn.mp h
   ·exact .inr h
  rcases this with z|z
  ·exact⟨s,uN ..,z⟩
  ·obtain⟨t,ht,e⟩:=gA z;exact⟨t,uL _ ht,e⟩
end LO
namespace L2
open PySem PySem.Spec PyProof.Rows
open LO LT
def eU(K:Frag)(H:Hp)(b:Addr)(R:List Pt):Prop:=∃xs,H b=some (.lst xs)/\Paired (PtE K H) xs R
def fk(K:Frag)(H:Hp)(v:V)(R:List Pt):Prop:=∃b,v=.ref b/\eU K H b R
def FoE(lf:Addr)(K:Frag)(H:Hp)(v:V)(W:List Sd):Prop:=∃b,v=.ref b/\b≠lf/\eU K H b (az W)
section
variable{K:Frag}{H H':Hp}{lf b:Addr}{v:V}{W:List Sd}{R:List Pt}
theorem eU.same(s:aq H H')(h:eU K H b R):eU K H' b R:=by obtain⟨xs,h1,h2⟩:=h;exact⟨xs,s _ _ h1,Paired.imp (fun _ _ z=>PtE.tk s.tk z) h2⟩
theorem fk.same(s:aq H H')(h:fk K H v R):fk K H' v R:=by obtain⟨b,rfl,h⟩:=h;exact⟨b,rfl,h.same s⟩
theorem FoE.same(s:aq H H')(h:FoE lf K H v W):FoE lf K H' v W:=by obtain⟨b,rfl,n,h⟩:=h;exact⟨b,rfl,n,h.same s⟩
theorem FoE.put{xs ys:List V}(hl:H lf=some (.lst xs))(h:FoE lf K H v W):FoE lf K (upd H lf (.lst ys)) v W:=by obtain⟨b,rfl,n,zs,h1,h2⟩:=h;exact⟨b,rfl,n,zs,by rw[ak n];exact h1,Paired.imp (fun _ _ z=>PtE.tk (TK.lst hl) z) h2⟩
theorem FoE.obj{d:Addr}{o o':Obj}(hd:H d=some (b8 d o))(h:FoE lf K H v W):FoE lf K (upd H d (b8 d o')) v W:=by obtain⟨b,rfl,n,zs,h1,h2⟩:=h;exact⟨b,rfl,n,zs,by rw[ak (fun z=>by rw[z,hd]at h1;cases h1)];exact h1,Paired.imp (fun _ _ z=>PtE.tk (TK.obj hd) z) h2⟩
theorem sE{vs:List V}{Ws:List (List Sd)}(p:Paired (FoE lf K H) vs Ws):∃tz:List (Addr×List Sd),vs=tz.map (fun z=>V.ref z.1)/\tz.map (·.2)=Ws/\∀z∈tz,eU K H z.1 (az z.2):=by
 induction p with
 |nil=>exact⟨[],rfl,rfl,fun _ z=>(vX z).elim⟩
 |cons a _ ih=>obtain⟨b,rfl,_,hb⟩:=a;obtain⟨tz,rfl,rfl,hz⟩:=ih;exact⟨(b,_)::tz,rfl,rfl,fun z hz'=>(vn.mp hz').elim (fun e=>e▸hb) (hz z)⟩
theorem kM:∀{tz:List (Addr×List Sd)},(∀z∈tz,eU K H z.1 (az z.2))->Paired (fk K H) (tz.map fun z=>V.ref z.1) ((tz.map (·.2)).map az)
 | [],_=>.nil
 |z::_,h=>.cons ⟨z.1,rfl,h z (uN ..)⟩ (kM fun y hy=>h y (uL _ hy))
theorem Kn.len{T:CT}{S:Sd->Prop}{U:List Sd}(h:Kn T S)(hs:∀s,S s->s∈U):T.length<=U.length:=by obtain⟨L,p,nd,e⟩:=h.list;rw[vx p];exact LM.length_le_of_subset nd fun x hx=>hs x ((e x).mp hx)
end
end L2
namespace LO
section
variable{A:Type}{op:A->A->A}{u:A}{f:Pt->Pt->A}
theorem gO(as:∀a b c,op (op a b) c=op a (op b c))(lu:∀a,op u a=a)(ru:∀a,op a u=a)(q:Pt):∀(V:List Pt)(z:Pt),cZ op u f z (V++[q])=op (cZ op u f z V) (f (V.getLast?.getD z) q)
 | [],z=>by show op (f z q) u=op u (f z q);rw[ru,lu]
 |p::V,z=>by
  have e:(p::V).getLast?.getD z=V.getLast?.getD p:=by
   cases V with
   |nil=>rfl
   |cons x V=>rw[List.getLast?_cons_cons,v7 (List.cons_ne_nil x V)];rfl
  show op (f z p) (cZ op u f p (V++[q]))=op (op (f z p) (cZ op u f p V)) _;rw[gO as lu ru q V p,as,e]
theorem qb{R:List Pt}{z:Pt}(h:R.getLast?=some z):kR op u f R=cZ op u f z R:=by
 cases R with
 |nil=>cases h
 |cons c R=>rw[v7 (List.cons_ne_nil c R)]at h;cases h;rfl
theorem ni(as:∀a b c,op (op a b) c=op a (op b c))(lu:∀a,op u a=a)(ru:∀a,op a u=a){R:List Pt}{z q y:Pt}{i:Nat}(hz:R.getLast?=some z)(hq:R[i]?=some q)(hy:((R.take i).getLast?.or R.getLast?)=some y):
  cZ op u f z (R.take (i+1))=op (cZ op u f z (R.take i)) (f y q):=by
 rw[vo,hq,vu,gO as lu ru];congr 2;cases e:(R.take i).getLast? with
 |some x=>rw[e]at hy;cases hy;rfl
 |none=>rw[e,hz]at hy;cases hy;rfl
end
noncomputable def cro(a b:Pt):Int:=a.1*b.2-b.1*a.2
noncomputable def eH(R:List Pt):Int:=kR (·+·) 0 cro R
section
variable{A:Type}{op:A->A->A}{u:A}{f:Pt->Pt->A}
noncomputable def lstP(R:List Pt):Pt:=R.getLast?.getD (0,0)
theorem nZ(R:List Pt):kR op u f R=cZ op u f (lstP R) R:=by
 cases R with
 |nil=>rfl
 |cons c R=>have e:=v7 (List.cons_ne_nil c R);unfold lstP;rw[qb e,e];rfl
theorem ou(as:∀a b c,op (op a b) c=op a (op b c))(lu:∀a,op u a=a)(ru:∀a,op a u=a){R:List Pt}{q y:Pt}{i:Nat}(hq:R[i]?=some q)(hy:((R.take i).getLast?.or R.getLast?)=some y):
  cZ op u f (lstP R) (R.take (i+1))=op (cZ op u f (lstP R) (R.take i)) (f y q):=by
 cases R with
 |nil=>cases hq
 |cons c R=>
  have e:=v7 (List.cons_ne_nil c R);have:(c::R).getLast?=some (lstP (c::R)):=by unfold lstP;rw[e];rfl
  exact ni as lu ru this hq hy
end
end LO
namespace L2
open PySem PySem.Spec PyProof.Rows
open LO LT
theorem none_of{H H':Hp}{l:Addr}(s:aq H H')(h:H' l=none):H l=none:=by
 cases z:H l with
 |none=>rfl
 |some o=>rw[s _ _ z]at h;cases h
noncomputable def fS(R:List Pt):PyData:=.list (R.map fun p=>dv [.inl p.1,.inl p.2])
theorem oj{K:Frag}{H:Hp}{xs:List V}{R:List Pt}(hI:Paired (PtE K H) xs R):fQ K H (R.map fun p=>dv [.inl p.1,.inl p.2]) xs:=by
 induction hI with
 |nil=>exact .nil
 |cons a b ih=>obtain⟨t,rfl,h⟩:=a;exact .cons (sv h) (ih)
theorem eU.isD{K:Frag}{H:Hp}{b:Addr}{R:List Pt}(h:eU K H b R):IsD K H (fS R) (.ref b):=by obtain⟨xs,h1,h2⟩:=h;exact .lst (SqL.of h1) (oj h2)
theorem om(R:List Pt):(fS R).canLay0=true:=by
 show PyData.canLayAll0 _=true
 induction R with
 |nil=>rfl
 |cons p R ih=>exact ih
theorem cO{K:Frag}{H:Hp}{xs:List V}{Rs:List (List Pt)}(hI:Paired (fk K H) xs Rs):fQ K H (Rs.map fS) xs:=by
 induction hI with
 |nil=>exact .nil
 |cons a b ih=>obtain⟨t,rfl,h⟩:=a;exact .cons h.isD (ih)
theorem cg(Rs:List (List Pt)):(PyData.list (Rs.map fS)).canLay0=true:=by
 show PyData.canLayAll0 _=true
 induction Rs with
 |nil=>rfl
 |cons R Rs ih=>show((fS R).canLay0&&PyData.canLayAll0 (Rs.map fS))=true;rw[om,ih];rfl
theorem oo(R:List Pt):(fS R).depth<=3:=by
 show PyData.depthAll _+1<=3;have:PyData.depthAll (R.map fun p=>dv [.inl p.1,.inl p.2])<=1:=by
  induction R with
  |nil=>decide
  |cons p R ih=>show max (PyData.depth (dv [.inl p.1,.inl p.2])) (PyData.depthAll (R.map fun p=>dv [.inl p.1,.inl p.2]))<=1;have h2:PyData.depth (dv [.inl p.1,.inl p.2])=1:=rfl;omega
 omega
theorem fR(Rs:List (List Pt)):(PyData.list (Rs.map fS)).depth<=50:=by
 show PyData.depthAll _+1<=50;have:PyData.depthAll (Rs.map fS)<=3:=by
  induction Rs with
  |nil=>decide
  |cons R Rs ih=>show max (fS R).depth (PyData.depthAll (Rs.map fS))<=3;have:=oo R;omega
 omega
section
variable{K:Frag}{H H':Hp}{lb ls b p:Addr}{v:V}{R:List Pt}
theorem eU.put{xs ys:List V}(n:b≠p)(hl:H p=some (.lst xs))(h:eU K H b R):eU K (upd H p (.lst ys)) b R:=by obtain⟨zs,h1,h2⟩:=h;exact⟨zs,by rw[ak n];exact h1,Paired.imp (fun _ _ z=>PtE.tk (TK.lst hl) z) h2⟩
end
end L2
namespace LO
open LT
theorem dF:jP (·+·) 0 cro where
 as:=Int.add_assoc
 cm:=Int.add_comm
 un:=Int.zero_add
 z:=fun p=>by unfold cro;omega
 ln:=fun c d k=>by obtain⟨x,y⟩:=c;cases d<;>simp only[cro,Dr.dx,Dr.dy]<;>grind
theorem qV(s:Sd):cro s.rev.st s.rev.en= -cro s.st s.en:=by obtain⟨e1,e2,e3,e4⟩:=er s;show s.rev.x*s.rev.ey-s.rev.ex*s.rev.y= -(s.x*s.ey-s.ex*s.y);rw[e1,e2,e3,e4];grind
theorem jS:∀V:List Sd,b9 (·+·) 0 cro (V.map Sd.rev)= -b9 (·+·) 0 cro V
 | []=>rfl
 |s::V=>by show cro s.rev.st s.rev.en+b9 (·+·) 0 cro (V.map Sd.rev)= -(cro s.st s.en+b9 (·+·) 0 cro V);rw[qV,jS V];omega
theorem rev_rev(s:Sd):s.rev.rev=s:=by obtain⟨x,y,d⟩:=s;cases d<;>simp[Sd.rev,Sd.ex,Sd.ey,Dr.lf,Dr.dx,Dr.dy]<;>omega
theorem n8(x y:Int):b9 (·+·) 0 cro (gu x y)=2:=by show cro (x,y+1) (x+0,y+1+ -1)+(cro (x,y) (x+1,y+0)+(cro (x+1,y) (x+1+0,y+1)+(cro (x+1,y+1) (x+1+ -1,y+1+0)+0)))=2;unfold cro;grind
theorem fF{α:Type}[DecidableEq α]:∀{l k:List α},l.Nodup->k.Nodup->(∀x,x∈l<->x∈k)->l.Perm k
 | [],k,_,_,h=>by
  cases k with
  |nil=>exact .refl _
  |cons a k=>exact absurd ((h a).mpr (uN ..)) (vX)
 |a::l,k,hl,hk,h=>by
  have ha:a∈k:=(h a).mp (uN ..);have p:=List.perm_cons_erase ha;refine List.Perm.trans ?_ p.symm;refine .cons a (fF (vM.mp hl).2 (hk.erase a) fun x=>?_);rw[hk.mem_erase_iff];constructor
  ·intro hx;exact⟨fun z=>(vM.mp hl).1 (z▸hx),(h x).mp (uL _ hx)⟩
  ·rintro⟨n,hx⟩;exact(vn.mp ((h x).mpr hx)).resolve_left n
theorem mY{w h g:Nat}(hw:0<w){U:List Sd}(nd:U.Nodup)(all:∀s,s∈U<->brd (grd w h g) s=true):b9 (·+·) 0 cro U=2*((((List.range (w*h)).filter g.testBit).length:Nat):Int):=by
 obtain⟨C,eC⟩:∃C,C=(List.range (w*h)).filter g.testBit:=⟨_,rfl⟩;rw[<-eC];obtain⟨X,eX⟩:∃X:Nat->List Sd,X=fun k=>gu ((k % w:Nat):Int) ((k / w:Nat):Int):=⟨_,rfl⟩;have mC:∀k,k∈C<->k<w*h/\g.testBit k=true:=fun k=>by rw[eC,List.mem_filter,vD]
 have ndC:C.Nodup:=by rw[eC];exact(List.nodup_range).filter _
 have mA:∀s,s∈C.flatMap X<->at4 (grd w h g) s.x s.y s.d=true:=fun s=>by rw[<-iT hw,List.mem_flatMap,eX];exact⟨fun⟨k,a,b⟩=>⟨k,((mC k).mp a).1,((mC k).mp a).2,b⟩,fun⟨k,a,b,c⟩=>⟨k,(mC k).mpr ⟨a,b⟩,c⟩⟩
 have cell:∀k j s,s∈X k->s∈X j->k=j:=fun k j s hk hj=>by
  rw[eX]at hk hj;have a:=gy.mp hk;have b:=gy.mp hj;have e1:k % w=j % w:=by have:=a.1.symm.trans b.1;omega
  have e2:k / w=j / w:=by have:=a.2.symm.trans b.2;omega
  rw[<-wJ k w,<-wJ j w,e1,e2]
 have ndA:(C.flatMap X).Nodup:=by
  have:∀D:List Nat,D.Nodup->(D.flatMap X).Nodup:=fun D hD=>by
   induction D with
   |nil=>exact .nil
   |cons k D ih=>rw[List.flatMap_cons];refine wx.mpr ⟨by rw[eX];exact rH _ _,ih (vM.mp hD).2,fun x hx y hy z=>?_⟩;obtain⟨j,hj,hy⟩:=List.mem_flatMap.mp hy;exact(vM.mp hD).1 (cell k j x hx (z▸hy)▸hj)
  exact this C ndC
 have sA:b9 (·+·) 0 cro (C.flatMap X)=2*((C.length:Nat):Int):=by
  have:∀D:List Nat,b9 (·+·) 0 cro (D.flatMap X)=2*((D.length:Nat):Int):=fun D=>by
   induction D with
   |nil=>rfl
   |cons k D ih=>rw[List.flatMap_cons,ft dF,ih,wQ];have:b9 (·+·) 0 cro (X k)=2:=(by rw[eX];exact n8 _ _);rw[this];omega
  exact this C
 obtain⟨V,eV⟩:∃V,V=(C.flatMap X).filter fun s=>at4 (grd w h g) s.rev.x s.rev.y s.rev.d:=⟨_,rfl⟩;have mV:∀s,s∈V<->at4 (grd w h g) s.x s.y s.d=true/\at4 (grd w h g) s.rev.x s.rev.y s.rev.d=true:=fun s=>by rw[eV,List.mem_filter,mA]
 have ndV:V.Nodup:=by rw[eV];exact ndA.filter _
 have inj:∀s t:Sd,s.rev=t.rev->s=t:=fun s t e=>by rw[<-rev_rev s,e,rev_rev]
 have pV:(V.map Sd.rev).Perm V:=fF (List.pairwise_map.mpr (ndV.imp fun n e=>n (inj _ _ e))) ndV fun s=>by
  rw[u0];constructor
  ·rintro⟨t,ht,rfl⟩;have:=(mV t).mp ht;exact(mV _).mpr ⟨this.2,by rw[rev_rev];exact this.1⟩
  ·intro hs;have:=(mV s).mp hs;exact⟨s.rev,(mV _).mpr ⟨this.2,by rw[rev_rev];exact this.1⟩,rev_rev s⟩
 have zV:b9 (·+·) 0 cro V=0:=by have a:=iF dF pV;rw[jS]at a;omega
 have pA:(C.flatMap X).Perm (U++V):=fF ndA (wx.mpr ⟨nd,ndV,fun x hx y hy z=>by
   have a:=(all x).mp hx;rw[jH,vK,Bool.not_eq_true']at a;have b:=((mV y).mp hy).2;rw[<-z,a.2]at b
   cases b⟩) fun s=>by
  rw[uR,mA,all,mV,jH];cases at4 (grd w h g) s.x s.y s.d<;>cases at4 (grd w h g) s.rev.x s.rev.y s.rev.d<;>simp
 have e:=iF dF pA;rw[ft dF,zV,sA]at e;omega
end LO
namespace LO
open LT L2
theorem jI{w h g:Nat}{s:Sd}(hb:at4 (grd w h g) s.x s.y s.d=true):(0<=s.x/\s.x<=w)/\(0<=s.y/\s.y<=h)/\(0<=s.ex/\s.ex<=w)/\(0<=s.ey/\s.ey<=h):=by obtain⟨x,y,d⟩:=s;have h':grd w h g (d.cx x) (d.cy y)=true:=hb;unfold grd at h';simp only[vK,uX]at h';obtain⟨⟨⟨⟨a1,a2⟩,a3⟩,a4⟩,_⟩:=h';cases d<;>simp[Dr.cx,Dr.cy,Sd.ex,Sd.ey,Dr.dx,Dr.dy]at* <;>omega
theorem kB:∀(l:List Int),l.foldr (·+·) 0=l.sum
 | []=>rfl
 |a::l=>by rw[List.foldr_cons,List.sum_cons,kB l]
theorem Rs.area{w h g:Nat}{Ws:List (List Sd)}(hw:0<w)(r:Rs (grd w h g) Ws):((Ws.map az).map eH).sum=2*((((List.range (w*h)).filter g.testBit).length:Nat):Int):=by have a:=r.sum dF;rw[mY hw r.nd r.all,kB]at a;exact a
end LO
namespace L2
open PySem PySem.Spec PyProof.Rows
open LO LT
theorem qg{p q:Int×Int}(hp:gN p)(hq:gN q)(e:ptN p=ptN q):p=q:=by obtain⟨a,b⟩:=p;obtain⟨c,d⟩:=q;obtain⟨h1,h2⟩:=hp;obtain⟨k1,k2⟩:=hq;have h1:0<=a/\a<16:=h1;have h2:0<=b/\b<16:=h2;have k1:0<=c/\c<16:=k1;have k2:0<=d/\d<16:=k2;have e:a*16+b=c*16+d:=e;exact Prod.ext (show a=c by omega) (show b=d by omega)
end L2
namespace LO
open LT L2
noncomputable def cV(f:Sd->Int)(W:List Sd):Int:=(W.map f).sum
theorem aO(f:Sd->Int)(s:Sd)(W:List Sd):cV f (s::W)=f s+cV f W:=rfl
theorem cU{f g:Sd->Int}:∀{W:List Sd},(∀s∈W,f s=g s)->cV f W=cV g W
 | [],_=>rfl
 |s::W,h=>by rw[aO,aO,h s (uN ..),cU fun t ht=>h t (uL _ ht)]
theorem eF(f g:Sd->Int):∀W:List Sd,cV (fun s=>f s+g s) W=cV f W+cV g W
 | []=>rfl
 |s::W=>by rw[aO,aO,aO,eF f g W];omega
theorem hC(f g:Sd->Int):∀W:List Sd,cV (fun s=>f s-g s) W=cV f W-cV g W
 | []=>rfl
 |s::W=>by rw[aO,aO,aO,hC f g W];omega
theorem kx(f:Sd->Int):∀W:List Sd,cV (fun s=>2*f s) W=2*cV f W
 | []=>rfl
 |s::W=>by rw[aO,aO,kx f W];omega
theorem ky(φ:Pt->Int):∀{W:List Sd}{p:Pt},Chn p W->cV (fun s=>φ s.en-φ s.st) W=φ (hE p W)-φ p
 | [],p,_=>by show(0:Int)=φ p-φ p;omega
 |s::W,p,.cons e t=>by rw[aO,ky φ t,e];show _=φ (hE s.en W)-φ p;omega
def Cls(W:List Sd):Prop:=∀φ:Pt->Int,cV (fun s=>φ s.en-φ s.st) W=0
section
variable{G:Gr}{W:List Sd}{s:Sd}{n:Nat}
theorem LW.cls(h:LW G W s n):Cls W:=fun φ=>by have w:=lY h.b h.cl;rw[<-h.e]at w;rw[ky φ w.1,w.2];omega
theorem iX(f:Pt->Pt->Int):∀W:List Sd,b9 (·+·) 0 f W=cV (fun s=>f s.st s.en) W
 | []=>rfl
 |s::W=>by rw[aO,<-iX f W];rfl
noncomputable def wc(x y:Int)(s:Sd):Int:=if s.d=.s/\s.y-1=y/\s.x<=x then 1 else if s.d=.n/\s.y=y/\s.x<=x then-1 else 0
noncomputable def wnd(W:List Sd)(x y:Int):Int:=cV (wc x y) W
noncomputable def nq(t s:Sd):Int:=if s=t then 1 else 0
theorem fH(t:Sd):∀{W:List Sd},W.Nodup->cV (nq t) W=if t∈W then 1 else 0
 | [],_=>rfl
 |s::W,nd=>by
  obtain⟨n1,n2⟩:=vM.mp nd;rw[aO,fH t n2];unfold nq;by_cases z:s=t
  ·subst z;rw[uM rfl,uK n1,uM (uN ..)];rfl
  ·rw[uK z];by_cases y:t∈W
   ·rw[uM y,uM (uL _ y)];rfl
   ·rw[uK y,uK (fun c=>(vn.mp c).elim (fun e=>z e.symm) y)];rfl
theorem rl{a b:Int}{d:Dr}{s:Sd}:s=⟨a,b,d⟩<->s.x=a/\s.y=b/\s.d=d:=by
 obtain⟨x,y,e⟩:=s;constructor
 ·intro h;cases h;exact⟨rfl,rfl,rfl⟩
 ·rintro⟨h1,h2,h3⟩;have h1:x=a:=h1;have h2:y=b:=h2;have h3:e=d:=h3;rw[h1,h2,h3]
theorem gD(nd:W.Nodup)(x y:Int):wnd W x y=wnd W (x-1) y+(if(⟨x,y+1,.s⟩:Sd)∈W then 1 else 0)-(if(⟨x,y,.n⟩:Sd)∈W then 1 else 0):=by rw[<-fH _ nd,<-fH _ nd];unfold wnd;rw[<-eF,<-hC];refine cU fun s _=>?_;unfold wc nq;obtain⟨a,b,d⟩:=s;simp only[rl];cases d<;>simp only[reduceCtorEq,false_and,and_false,if_false,true_and,and_true]<;>(repeat' split)<;>omega
theorem nQ(nd:W.Nodup)(cl:Cls W)(x y:Int):wnd W x y=wnd W x (y-1)+(if(⟨x,y,.e⟩:Sd)∈W then 1 else 0)-(if(⟨x+1,y,.w⟩:Sd)∈W then 1 else 0):=by
 have c:=cl fun p=>if p.1<=x/\p.2=y then 1 else 0
 rw[<-fH _ nd,<-fH _ nd];unfold wnd;have e:cV (wc x y) W=cV (fun s=>(wc x (y-1) s+nq ⟨x,y,.e⟩ s-nq ⟨x+1,y,.w⟩ s)+((if s.en.1<=x/\s.en.2=y then(1:Int)else 0)-(if s.st.1<=x/\s.st.2=y then(1:Int)else 0))) W:=by refine cU fun s _=>?_;unfold wc nq Sd.en Sd.st Sd.ex Sd.ey;obtain⟨a,b,d⟩:=s;simp only[rl];cases d<;>simp only[reduceCtorEq,false_and,and_false,if_false,true_and,and_true,Dr.dx,Dr.dy]<;>(repeat' split)<;>omega
 rw[e,eF,hC,eF,c];omega
theorem pK(x y:Int):brd G ⟨x,y+1,.s⟩=(G x y&& !G (x-1) y)/\brd G ⟨x,y,.n⟩=(G (x-1) y&& !G x y)/\brd G ⟨x,y,.e⟩=(G x y&& !G x (y-1))/\brd G ⟨x+1,y,.w⟩=(G x (y-1)&& !G x y):=by
 refine⟨?_,rfl,rfl,?_⟩
 ·show(G x (y+1-1)&& !G (x-1) (y+1-1))=_;rw[show y+1-1=y by omega]
 ·show(G (x+1-1) (y-1)&& !G (x+1-1) y)=_;rw[show x+1-1=x by omega]
structure Rng(G:Gr)(W:List Sd):Prop where
 nd:W.Nodup
 cl:Cls W
 b:∀t∈W,brd G t=true
theorem LW.rng(h:LW G W s n):Rng G W:=⟨h.nd,h.cls,h.is.brd⟩
theorem Rng.no(h:Rng G W){t:Sd}(e:brd G t=false):t∉W:=fun z=>by rw[h.b t z]at e;cases e
theorem Rng.sameX(h:Rng G W){x y:Int}(e:G x y=G (x-1) y):wnd W x y=wnd W (x-1) y:=by obtain⟨b1,b2,_,_⟩:=pK (G:=G) x y;rw[gD h.nd,uK (h.no (by rw[b1,e];cases G (x-1) y<;>rfl)),uK (h.no (by rw[b2,e];cases G (x-1) y<;>rfl))];omega
theorem Rng.sameY(h:Rng G W){x y:Int}(e:G x y=G x (y-1)):wnd W x y=wnd W x (y-1):=by obtain⟨_,_,b1,b2⟩:=pK (G:=G) x y;rw[nQ h.nd h.cl,uK (h.no (by rw[b1,e];cases G x (y-1)<;>rfl)),uK (h.no (by rw[b2,e];cases G x (y-1)<;>rfl))];omega
theorem Rng.stepIn(h:Rng G W){x y:Int}(e1:G x y=true)(e2:G (x-1) y=false):wnd W x y=wnd W (x-1) y+(if(⟨x,y+1,.s⟩:Sd)∈W then 1 else 0):=by obtain⟨_,b2,_,_⟩:=pK (G:=G) x y;rw[gD h.nd,uK (c:=(⟨x,y,.n⟩:Sd)∈W) (h.no (by rw[b2,e1,e2];rfl))];omega
theorem Rng.stepOut(h:Rng G W){x y:Int}(e1:G x y=false)(e2:G (x-1) y=true):wnd W x y=wnd W (x-1) y-(if(⟨x,y,.n⟩:Sd)∈W then 1 else 0):=by obtain⟨b1,_,_,_⟩:=pK (G:=G) x y;rw[gD h.nd,uK (c:=(⟨x,y+1,.s⟩:Sd)∈W) (h.no (by rw[b1,e1,e2];rfl))];omega
theorem lX(hx:∀s∈W,0<=s.x){x y:Int}(h:x<0):wnd W x y=0:=by
 have:cV (wc x y) W=cV (fun _=>0) W:=cU fun s hs=>by have:=hx s hs;unfold wc;rw[uK (by omega),uK (by omega)]
 unfold wnd;rw[this];have:∀V:List Sd,cV (fun _=>0) V=0:=fun V=>by
  induction V with
  |nil=>rfl
  |cons s V ih=>rw[aO,ih];rfl
 exact this W
theorem Rng.out(h:Rng G W)(hx:∀s∈W,0<=s.x){c:Int}(hc:∀x y,G x y=true->wnd W x y=c)(y:Int):∀k:Nat,G ((k:Int)-1) y=false->wnd W ((k:Int)-1) y=0\/wnd W ((k:Int)-1) y=c\/wnd W ((k:Int)-1) y=c-1
 | 0,_=>.inl (lX hx (by omega))
 |k+1,e=>by
  have ek:(((k+1:Nat):Int)-1)-1=(k:Int)-1:=by omega
  cases z:G ((((k+1:Nat):Int)-1)-1) y with
  |true=>
   rw[h.stepOut e z,hc _ _ z];split
   ·exact .inr (.inr rfl)
   ·exact .inr (.inl (by omega))
  |false=>rw[h.sameX (e.trans z.symm),ek];exact h.out hx hc y k (by rw[<-ek];exact z)
theorem Rng.row0(h:Rng G W)(hx:∀s∈W,0<=s.x)(y:Int):∀k:Nat,(∀x:Int,x<k->G x y=false)->wnd W ((k:Int)-1) y=0
 | 0,_=>lX hx (by omega)
 |k+1,e=>by
  have ek:(((k+1:Nat):Int)-1)-1=(k:Int)-1:=by omega
  rw[h.sameX ((e _ (by omega)).trans (e _ (by omega)).symm),ek];exact h.row0 hx y k fun x hx'=>e x (by omega)
noncomputable def cells:List (Int×Int):=(List.range 64).map fun k=>(((k % 8:Nat):Int),((k / 8:Nat):Int))
noncomputable def tot(W:List Sd):Int:=(cells.map fun p=>wnd W p.1 p.2).sum
theorem sum_add{α:Type}(f g:α->Int):∀l:List α,(l.map fun p=>f p+g p).sum=(l.map f).sum+(l.map g).sum
 | []=>rfl
 |a::l=>by rw[vp,vp,vp,List.sum_cons,List.sum_cons,List.sum_cons,sum_add f g l];omega
theorem l8:∀W:List Sd,tot W=cV (fun s=>(cells.map fun p=>wc p.1 p.2 s).sum) W
 | []=>by show(cells.map fun _=>(0:Int)).sum=0;decide
 |s::W=>by rw[aO,<-l8 W];exact sum_add (fun p=>wc p.1 p.2 s) (fun p=>wnd W p.1 p.2) cells
theorem mQ:∀x∈List.range 9,∀y∈List.range 8,(cells.map fun p=>wc p.1 p.2 ⟨(x:Nat),((y:Nat):Int)+1,.s⟩).sum=8-((x:Nat):Int)/\(cells.map fun p=>wc p.1 p.2 ⟨(x:Nat),(y:Nat),.n⟩).sum=((x:Nat):Int)-8:=by decide+kernel
theorem t6{s:Sd}(hs:(0<=s.x/\s.x<=8)/\(0<=s.y/\s.y<=8)/\(0<=s.ex/\s.ex<=8)/\(0<=s.ey/\s.ey<=8)):cro s.st s.en=2*(cells.map fun p=>wc p.1 p.2 s).sum+((16*s.en.2-s.en.1*s.en.2)-(16*s.st.2-s.st.1*s.st.2)):=by
 obtain⟨a,b,d⟩:=s;obtain⟨⟨a1,a2⟩,⟨b1,b2⟩,_,⟨c1,c2⟩⟩:=hs;have a1:0<=a:=a1;have a2:a<=8:=a2;have b1:0<=b:=b1;have b2:b<=8:=b2;have zero:(d=.e\/d=.w)->(cells.map fun p=>wc p.1 p.2 ⟨a,b,d⟩).sum=0:=fun hd=>by
  have:(cells.map fun p=>wc p.1 p.2 ⟨a,b,d⟩)=cells.map fun _=>(0:Int):=List.map_congr_left fun p _=>by unfold wc;rcases hd with e|e<;>rw[e]<;>simp
  rw[this];decide
 cases d with
 |e=>rw[zero (.inl rfl)];show a*(b+0)-(a+1)*b=2*0+((16*(b+0)-(a+1)*(b+0))-(16*b-a*b));grind
 |w=>rw[zero (.inr rfl)];show a*(b+0)-(a+ -1)*b=2*0+((16*(b+0)-(a+ -1)*(b+0))-(16*b-a*b));grind
 |n=>have c2:b+1<=8:=c2;obtain⟨x,rfl⟩:=vQ a1;obtain⟨y,rfl⟩:=vQ b1;rw[(mQ x (vD.mpr (by omega)) y (vD.mpr (by omega))).2];show(x:Int)*((y:Int)+1)-((x:Int)+0)*(y:Int)=2*((x:Int)-8)+((16*((y:Int)+1)-((x:Int)+0)*((y:Int)+1))-(16*(y:Int)-(x:Int)*(y:Int)));grind
 |s=>
  have c1:0<=b+ -1:=c1;obtain⟨x,rfl⟩:=vQ a1;obtain⟨y,ey⟩:=vQ c1;have ey2:b+ -1=(y:Int):=ey;obtain rfl:b=(y:Int)+1:=by omega
  rw[(mQ x (vD.mpr (by omega)) y (vD.mpr (by omega))).1];show(x:Int)*((y:Int)+1+ -1)-((x:Int)+0)*((y:Int)+1)=2*(8-(x:Int))+((16*((y:Int)+1+ -1)-((x:Int)+0)*((y:Int)+1+ -1))-(16*((y:Int)+1)-(x:Int)*((y:Int)+1)));grind
theorem pN(cl:Cls W)(hb:∀s∈W,(0<=s.x/\s.x<=8)/\(0<=s.y/\s.y<=8)/\(0<=s.ex/\s.ex<=8)/\(0<=s.ey/\s.ey<=8)):b9 (·+·) 0 cro W=2*tot W:=by have c:=cl fun p=>16*p.2-p.1*p.2;rw[iX,cU fun s hs=>t6 (hb s hs),eF,kx,c,<-l8];omega
end
theorem dS{w h p j:Nat}(hw:0<w)(hj:j<w*h):grd w h p ((j % w:Nat):Int) ((j / w:Nat):Int)=p.testBit j:=by unfold grd;have m1:=Nat.mod_lt j hw;have m2:j / w<h:=Nat.div_lt_of_lt_mul hj;rw[ve (show(0:Int)<=((j % w:Nat):Int)from Int.natCast_nonneg _),ve (show((j % w:Nat):Int)<((w:Nat):Int)from Int.ofNat_lt.mpr m1),ve (show(0:Int)<=((j / w:Nat):Int)from Int.natCast_nonneg _),ve (show((j / w:Nat):Int)<((h:Nat):Int)from Int.ofNat_lt.mpr m2),vE,vE,Nat.mul_comm,wJ];rfl
theorem fW{w h p:Nat}(hw:0<w){x y:Int}(e:grd w h p x y=true):∃j,j<w*h/\x=((j % w:Nat):Int)/\y=((j / w:Nat):Int)/\p.testBit j=true:=by
 have e':=e;unfold grd at e';simp only[vK,uX]at e';obtain⟨⟨⟨⟨a1,a2⟩,a3⟩,a4⟩,a5⟩:=e';obtain⟨x,rfl⟩:=vQ a1;obtain⟨y,rfl⟩:=vQ a3;rw[vE,vE]at a5;have x1:x<w:=Int.ofNat_lt.mp a2;have y1:y<h:=Int.ofNat_lt.mp a4;have e1:(y*w+x) % w=x:=by rw[Nat.mul_comm,Nat.mul_add_mod];exact Nat.mod_eq_of_lt x1
 have e2:(y*w+x) / w=y:=by rw[Nat.mul_comm,Nat.mul_add_div hw,Nat.div_eq_of_lt x1,Nat.add_zero]
 refine⟨y*w+x,?_,by rw[e1],by rw[e2],a5⟩;have:(y+1)*w<=h*w:=Nat.mul_le_mul_right w y1;rw[Nat.add_mul,Nat.one_mul,Nat.mul_comm h w]at this;omega
theorem qu{w h j i:Nat}(hw:0<w)(hn:i∈LM.bG w h j):(((i % w:Nat):Int)=((j % w:Nat):Int)/\(((i / w:Nat):Int)=((j / w:Nat):Int)-1\/((i / w:Nat):Int)=((j / w:Nat):Int)+1))\/(((i / w:Nat):Int)=((j / w:Nat):Int)/\(((i % w:Nat):Int)=((j % w:Nat):Int)-1\/((i % w:Nat):Int)=((j % w:Nat):Int)+1)):=by
 have e:w*(j / w)+j % w=j:=wJ j w;have r:=Nat.mod_lt j hw;have mk:∀{a b:Nat},b<w->(w*a+b) % w=b/\(w*a+b) / w=a:=fun {a b} hb=>⟨by rw[Nat.mul_add_mod];exact Nat.mod_eq_of_lt hb,by rw[Nat.mul_add_div hw,Nat.div_eq_of_lt hb,Nat.add_zero]⟩;rcases LM.dA.mp hn with⟨z,e2⟩|⟨z,e2⟩|⟨z,e2⟩|⟨z,e2⟩
 ·obtain⟨y,ey⟩:∃y,j / w=y+1:=⟨j / w-1,by omega⟩;have:i=w*y+j % w:=by
   rw[e2];rw[ey,Nat.mul_add]at e;omega
  obtain⟨m1,m2⟩:=mk (a:=y) r;rw[this,m1,m2,ey];exact .inl ⟨rfl,.inl (by omega)⟩
 ·obtain⟨m1,m2⟩:=mk (a:=j / w) (b:=j % w-1) (by omega);have:i=w*(j / w)+(j % w-1):=by omega
  rw[this,m1,m2];exact .inr ⟨rfl,.inl (by omega)⟩
 ·obtain⟨m1,m2⟩:=mk (a:=j / w) (b:=j % w+1) (by omega);have:i=w*(j / w)+(j % w+1):=by omega
  rw[this,m1,m2];exact .inr ⟨rfl,.inr (by omega)⟩
 ·obtain⟨m1,m2⟩:=mk (a:=j / w+1) r;have:i=w*(j / w+1)+j % w:=by
   rw[Nat.mul_add];omega
  rw[this,m1,m2];exact .inl ⟨rfl,.inr (by omega)⟩
section
variable{w h c p k:Nat}{W:List Sd}
theorem pH(hw:0<w)(hc:c<2^(w*h))(a:LM.aT w h c k p)(R:Rng (grd w h p) W):∀x y,grd w h p x y=true->wnd W x y=wnd W ((k % w:Nat):Int) ((k / w:Nat):Int):=by
 have hp:=a.lt hc;have key:∀j,LM.Rch w h c k j->wnd W ((j % w:Nat):Int) ((j / w:Nat):Int)=wnd W ((k % w:Nat):Int) ((k / w:Nat):Int):=fun j r=>by
  induction r with
  |here e=>rfl
  | @step j i r n e ih=>
   have bj:=(a j).mpr r;have bi:=(a i).mpr (.step r n e);have gj:=dS (p:=p) hw (LM.bO hp bj);have gi:=dS (p:=p) hw (LM.bO hp bi);rw[bj]at gj;rw[bi]at gi;rw[<-ih];rcases qu hw n with⟨e1,e2|e2⟩|⟨e1,e2|e2⟩
   ·rw[e1,e2]at gi ⊢;exact(R.sameY (gj.trans gi.symm)).symm
   ·have e3:((j / w:Nat):Int)=((i / w:Nat):Int)-1:=(by omega);rw[<-e1,e3]at gj ⊢;exact R.sameY (gi.trans gj.symm)
   ·rw[e1,e2]at gi ⊢;exact(R.sameX (gj.trans gi.symm)).symm
   ·have e3:((j % w:Nat):Int)=((i % w:Nat):Int)-1:=(by omega);rw[<-e1,e3]at gj ⊢;exact R.sameX (gi.trans gj.symm)
 intro x y e;obtain⟨j,hj,rfl,rfl,bj⟩:=fW hw e;exact key j ((a j).mp bj)
theorem nc{G:Gr}{y:Int}(neg:∀x:Int,x<0->G x y=false):∀x:Nat,G x y=true->∃m:Nat,m<=x/\G m y=true/\∀x:Int,x<m->G x y=false:=fun x=>by
 induction x using Nat.strongRecOn with
 |_ x ih=>
  intro e;by_cases z:∃m:Nat,m<x/\G m y=true
  ·obtain⟨m,hm,em⟩:=z;obtain⟨n,n1,n2⟩:=ih m hm em;exact⟨n,by omega,n2⟩
  ·refine⟨x,uW _,e,fun v hv=>?_⟩;by_cases v0:v<0
   ·exact neg v v0
   ·obtain⟨m,rfl⟩:=vQ (show 0<=v by omega);cases q:G (m:Int) y with
    |false=>rfl
    |true=>exact(z ⟨m,by omega,q⟩).elim
theorem gG{α:Type}{f:α->Int}:∀{l:List α},(∀a∈l,0<=f a)->0<=(l.map f).sum
 | [],_=>wm _
 |a::l,hf=>by have h1:=hf a (uN ..);have h2:=gG (l:=l) fun b hb=>hf b (uL _ hb);rw[vp,List.sum_cons];omega
theorem md{α:Type}{f:α->Int}:∀{l:List α},(∀a∈l,0<=f a)->(∃a∈l,0<f a)->0<(l.map f).sum
 | [],_,⟨_,z,_⟩=>(vX z).elim
 |a::l,hf,⟨b,hb,pb⟩=>by
  have h1:=hf a (uN ..);rw[vp,List.sum_cons];rcases vn.mp hb with z|z
  ·rw[z]at pb;have h2:=gG (f:=f) (l:=l) fun b hb=>hf b (uL _ hb);omega
  ·have:=md (f:=f) (l:=l) (fun b hb=>hf b (uL _ hb)) ⟨b,z,pb⟩;omega
theorem gF{α:Type}{f:α->Int}:∀{l:List α},(∀a∈l,f a<=0)->(l.map f).sum<=0
 | [],_=>wm _
 |a::l,hf=>by have h1:=hf a (uN ..);have h2:=gF (l:=l) fun b hb=>hf b (uL _ hb);rw[vp,List.sum_cons];omega
theorem nz{x y:Nat}(hx:x<8)(hy:y<8):((x:Int),(y:Int))∈cells:=by unfold cells;refine u0.mpr ⟨8*y+x,vD.mpr (by omega),?_⟩;rw[show(8*y+x) % 8=x by omega,show(8*y+x) / 8=y by omega]
theorem nN{q:Int×Int}(hq:q∈cells):∃x y:Nat,q=((x:Int),(y:Int)):=by unfold cells at hq;obtain⟨k,_,rfl⟩:=u0.mp hq;exact⟨_,_,rfl⟩
theorem n9(hw:0<w)(hw8:w<=8)(hh8:h<=8)(hc:c<2^(w*h))(a:LM.aT w h c k p)(hk:p.testBit k=true):∃s0,brd (grd w h p) s0=true/\∀W s n,LW (grd w h p) W s n->(0<eH (az W)<->s0∈W):=by
 have hp:=a.lt hc;have hkl:=LM.bO hp hk;have gk:=dS (p:=p) hw hkl;rw[hk]at gk
 obtain⟨m,mk,gm,first⟩:=nc (G:=grd w h p) (y:=((k / w:Nat):Int)) (fun x hx=>by
  unfold grd;rw[vh (by omega)]
  rfl) (k % w) gk
 have ml:=Nat.mod_lt k hw;have kh:k / w<h:=Nat.div_lt_of_lt_mul hkl;have b0:brd (grd w h p) ⟨(m:Int),((k / w:Nat):Int)+1,.s⟩=true:=by rw[(pK _ _).1,gm,first _ (by omega)];rfl
 refine⟨_,b0,fun W s n lw=>?_⟩;have R:=lw.rng;have inn:∀t∈W,(0<=t.x/\t.x<=8)/\(0<=t.y/\t.y<=8)/\(0<=t.ex/\t.ex<=8)/\(0<=t.ey/\t.ey<=8):=fun t ht=>by obtain⟨z1,z2,z3,z4⟩:=jI (aP.mp (R.b t ht)).1;omega
 have hx:∀t∈W,0<=t.x:=fun t ht=>(inn t ht).1.1;have con:=pH hw hc a R;have cm:=con _ _ gm;have r0:=R.row0 hx ((k / w:Nat):Int) m first
 have st:=R.stepIn gm (first _ (by omega));rw[r0]at st;have ea:eH (az W)=2*tot W:=by unfold eH;rw[lw.sum dF,pN R.cl inn]
 have outs:∀q∈cells,grd w h p q.1 q.2=false->wnd W q.1 q.2=0\/wnd W q.1 q.2=wnd W ((k % w:Nat):Int) ((k / w:Nat):Int)\/wnd W q.1 q.2=wnd W ((k % w:Nat):Int) ((k / w:Nat):Int)-1:=fun q hq e=>by
  obtain⟨x,y,rfl⟩:=nN hq;have ex:(((x+1:Nat):Int)-1)=(x:Int):=by omega
  have:=R.out hx con (y:Int) (x+1) (by rw[ex];exact e);rw[ex]at this;exact this
 by_cases z:(⟨(m:Int),((k / w:Nat):Int)+1,.s⟩:Sd)∈W
 ·rw[uM z]at st;refine⟨fun _=>z,fun _=>?_⟩;have:0<tot W:=by
   refine md (fun q hq=>?_) ⟨((m:Int),((k / w:Nat):Int)),nz (by omega) (by omega),?_⟩
   ·cases e:grd w h p q.1 q.2 with
    |true=>rw[con _ _ e];omega
    |false=>rcases outs q hq e with y|y|y<;>omega
   ·show 0<wnd W (m:Int) ((k / w:Nat):Int);omega
  omega
 ·rw[uK z]at st;refine⟨fun y=>?_,fun y=>(z y).elim⟩;have:tot W<=0:=by
   refine gF fun q hq=>?_;cases e:grd w h p q.1 q.2 with
   |true=>rw[con _ _ e];omega
   |false=>rcases outs q hq e with y|y|y<;>omega
  omega
theorem oG{s0:Sd}:∀{Ws:List (List Sd)},Ws.flatten.Nodup->s0∈Ws.flatten->(Ws.filter fun W=>decide (s0∈W)).length=1
 | [],_,h=>by cases h
 |W::Ws,nd,hm=>by
  rw[List.flatten_cons]at nd hm;obtain⟨n1,n2,n3⟩:=wx.mp nd;by_cases z:s0∈W
  ·rw[List.filter_cons_of_pos (by rw[uX];exact z)];have:Ws.filter (fun W=>decide (s0∈W))=[]:=by
    rw[List.filter_eq_nil_iff];intro V hV e;exact n3 s0 z s0 (wO.mpr ⟨V,hV,wu e⟩) rfl
   rw[this];rfl
  ·rw[List.filter_cons_of_neg (by rw[uX];exact z)];exact oG n2 ((uR.mp hm).resolve_left z)
theorem Rs.one_pos{Ws:List (List Sd)}(hw:0<w)(hw8:w<=8)(hh8:h<=8)(hc:c<2^(w*h))(a:LM.aT w h c k p)(hk:p.testBit k=true)(r:Rs (grd w h p) Ws):(((Ws.map az).map eH).filter fun x=>decide (0<x)).length=1:=by obtain⟨s0,b0,hs⟩:=n9 hw hw8 hh8 hc a hk;rw[vU,List.filter_map,uF];refine Eq.trans (congrArg List.length (List.filter_congr fun W hW=>?_)) (oG r.nd ((r.all s0).mpr b0));obtain⟨s,n,lw⟩:=r.wk W hW;exact decide_eq_decide.mpr (hs W s n lw)
end
end LO
namespace LO
open LT L2
open PySem (Paired)
structure Pc(P G:Gr):Prop where
 sub:∀x y,P x y=true->G x y=true
 lf:∀x y,P x y=true->G (x-1) y=true->P (x-1) y=true
 rt:∀x y,P x y=true->G (x+1) y=true->P (x+1) y=true
 dn:∀x y,P x y=true->G x (y-1)=true->P x (y-1)=true
 up:∀x y,P x y=true->G x (y+1)=true->P x (y+1)=true
section
variable{P G:Gr}
theorem Pc.eq(h:Pc P G){x y x' y':Int}(e:P x y=true)(n:(x'=x-1/\y'=y)\/(x'=x+1/\y'=y)\/(x'=x/\y'=y-1)\/(x'=x/\y'=y+1)):G x' y'=P x' y':=by
 have key:G x' y'=true->P x' y'=true:=by
  rcases n with⟨rfl,rfl⟩|⟨rfl,rfl⟩|⟨rfl,rfl⟩|⟨rfl,rfl⟩
  ·exact h.lf _ _ e
  ·exact h.rt _ _ e
  ·exact h.dn _ _ e
  ·exact h.up _ _ e
 cases z:P x' y' with
 |true=>exact h.sub _ _ z
 |false=>
  cases y:G x' y' with
  |false=>rfl
  |true=>rw[key y]at z;cases z
theorem Pc.rt4(h:Pc P G){x y:Int}{d:Dr}(e:at4 P x y d=true):at4 G x y d.rt=at4 P x y d.rt:=by
 cases d
 ·exact h.eq (x:=x) (y:=y) e (.inr (.inr (.inl ⟨rfl,rfl⟩)))
 ·exact h.eq (x:=x-1) (y:=y) e (.inr (.inl ⟨by show x=_;omega,rfl⟩))
 ·exact h.eq (x:=x-1) (y:=y-1) e (.inr (.inr (.inr ⟨rfl,by show y=_;omega⟩)))
 ·exact h.eq (x:=x) (y:=y-1) e (.inl ⟨rfl,rfl⟩)
theorem Pc.at4(h:Pc P G){x y:Int}{d:Dr}(e:at4 P x y d=true):at4 G x y d=true:=h.sub _ _ e
theorem Pc.brd(h:Pc P G){s:Sd}(b:brd P s=true):brd G s=true:=by obtain⟨b1,b2⟩:=aP.mp b;exact aP.mpr ⟨h.at4 b1,(h.rt4 b1).trans b2⟩
theorem Pc.nxt(h:Pc P G){s:Sd}(b:LO.brd P s=true):nxt G s=nxt P s:=by
 rw[cT b,cT (h.brd b)];have l:=(mH P s).trans (aP.mp b).1;have e1:=h.rt4 l;rw[mD]at e1;rw[e1];cases z:LO.at4 P s.ex s.ey s.d with
 |false=>rfl
 |true=>rw[h.rt4 z]
theorem Pc.itr(h:Pc P G){s:Sd}(b:LO.brd P s=true):∀k,itr G s k=itr P s k
 | 0=>rfl
 |k+1=>by show LO.nxt G (LO.itr G s k)=LO.nxt P (LO.itr P s k);rw[h.itr b k,h.nxt (bY b k)]
theorem Pc.lw(h:Pc P G){W:List Sd}{s:Sd}{n:Nat}(l:LW P W s n):LW G W s n:=by have e:wlk G s n=wlk P s n:=List.map_congr_left fun k _=>h.itr l.b k;exact⟨h.brd l.b,l.n0,l.e.trans e.symm,(h.itr l.b n).trans l.cl,l.nd,l.least⟩
end
section
variable{w h g p k:Nat}
theorem qW(hw:0<w)(hg:g<2^(w*h))(a:∀k,p.testBit k=true->LM.aT w h g k p)(s:LM.Sub p g):Pc (grd w h p) (grd w h g):=by
 have hp:p<2^(w*h):=LM.dQ fun j hj=>LM.bO hg (s j hj);have sub:∀x y,grd w h p x y=true->grd w h g x y=true:=fun x y e=>by obtain⟨j,hj,rfl,rfl,b⟩:=fW hw e;rw[dS hw hj];exact s j b
 have go:∀{x y x' y':Int},grd w h p x y=true->grd w h g x' y'=true->((x'=x-1/\y'=y)\/(x'=x+1/\y'=y)\/(x'=x/\y'=y-1)\/(x'=x/\y'=y+1))->grd w h p x' y'=true:=fun {x y x' y'} e e' n=>by
  obtain⟨j,hj,rfl,rfl,bj⟩:=fW hw e;obtain⟨i,hi,rfl,rfl,bi⟩:=fW hw e';rw[dS hw hi];have c:=a j bj;refine(c i).mpr (.step (.here (s j bj)) (LM.dA.mpr ?_) bi);have e1:w*(j / w)+j % w=j:=wJ j w;have e2:w*(i / w)+i % w=i:=wJ i w;have m1:=Nat.mod_lt i hw;have m2:i / w<h:=Nat.div_lt_of_lt_mul hi;rcases n with⟨n1,n2⟩|⟨n1,n2⟩|⟨n1,n2⟩|⟨n1,n2⟩
  ·have q:i / w=j / w:=(by omega);rw[q]at e2;exact .inr (.inl ⟨by omega,by omega⟩)
  ·have q:i / w=j / w:=(by omega);rw[q]at e2;exact .inr (.inr (.inl ⟨by omega,by omega⟩))
  ·have q:j / w=i / w+1:=(by omega);rw[q,Nat.mul_add]at e1;exact .inl ⟨by rw[q];exact Nat.succ_pos _,by omega⟩
  ·have q:i / w=j / w+1:=(by omega);rw[q,Nat.mul_add]at e2;exact .inr (.inr (.inr ⟨by omega,by omega⟩))
 exact⟨sub,fun x y e e'=>go e e' (.inl ⟨rfl,rfl⟩),fun x y e e'=>go e e' (.inr (.inl ⟨rfl,rfl⟩)),fun x y e e'=>go e e' (.inr (.inr (.inl ⟨rfl,rfl⟩))),fun x y e e'=>go e e' (.inr (.inr (.inr ⟨rfl,rfl⟩)))⟩
structure t8(w h g p:Nat):Prop where
 pc:Pc (grd w h p) (grd w h g)
 ne:∃k,p.testBit k=true
 cp:∀k,p.testBit k=true->LM.aT w h g k p
 lt:p<2^(w*h)
theorem oy{ps:List Nat}(hw:0<w)(hg:g<2^(w*h))(h64:w*h<=64)(a:LM.dI w h g ps):(∀p∈ps,t8 w h g p)/\ps.Pairwise L2.Dis/\∀k,g.testBit k=true->∃p∈ps,p.testBit k=true:=by obtain⟨m1,m2⟩:=a.mem hw hg h64 (fun j i _ _ z=>z) (fun j z=>z);have hg64:=uQ hg (vJ (by decide) h64);obtain⟨n1,n2⟩:=nk a hg64;refine⟨fun p hp=>?_,n2,m2⟩;obtain⟨p0,sb⟩:=n1 p hp;have lp:p<2^(w*h):=LM.dQ fun j hj=>LM.bO hg (sb j hj);have lp64:=uQ lp (vJ (by decide) h64);exact⟨qW hw hg (m1 p hp) sb,⟨_,(LM.dB lp64 p0).1⟩,m1 p hp,lp⟩
theorem qc{ps:List Nat}{L:List (List (List Sd))}(hw:0<w)(hg:g<2^(w*h))(h64:w*h<=64)(a:LM.dI w h g ps)(pr:Paired (fun p Vs=>Rs (grd w h p) Vs) ps L):Rs (grd w h g) L.flatten:=by
 obtain⟨c1,c2,c3⟩:=oy hw hg h64 a;have gen:∀{ps:List Nat}{L:List (List (List Sd))},Paired (fun p Vs=>Rs (grd w h p) Vs) ps L->(∀p∈ps,t8 w h g p)->ps.Pairwise L2.Dis->(∀W∈L.flatten,∃s n,LW (grd w h g) W s n)/\L.flatten.flatten.Nodup/\∀s,s∈L.flatten.flatten<->∃p∈ps,brd (grd w h p) s=true:=by
  intro ps L pr
  induction pr with
  |nil=>exact fun _ _=>⟨fun _ z=>(vX z).elim,.nil,fun s=>⟨fun z=>(vX z).elim,fun⟨_,z,_⟩=>(vX z).elim⟩⟩
  | @cons p Vs ps L r _ ih=>
   intro hp hd;obtain⟨i1,i2,i3⟩:=ih (fun q hq=>hp q (uL _ hq)) (List.pairwise_cons.mp hd).2;have P:=hp p (uN ..);refine⟨fun W hW=>?_,?_,fun s=>?_⟩
   ·rw[List.flatten_cons]at hW;rcases uR.mp hW with z|z
    ·obtain⟨s,n,l⟩:=r.wk W z;exact⟨s,n,P.pc.lw l⟩
    ·exact i1 W z
   ·rw[List.flatten_cons,wL];refine wx.mpr ⟨r.nd,i2,fun x hx y hy e=>?_⟩;subst e;obtain⟨q,hq,bq⟩:=(i3 x).mp hy;obtain⟨j,hj,e1,e2,b1⟩:=fW hw (show grd w h p (x.d.cx x.x) (x.d.cy x.y)=true from(aP.mp ((r.all x).mp hx)).1);have b2:grd w h q (x.d.cx x.x) (x.d.cy x.y)=true:=(aP.mp bq).1;rw[e1,e2,dS hw hj]at b2;exact(List.pairwise_cons.mp hd).1 q hq j ⟨b1,b2⟩
   ·rw[List.flatten_cons,wL,uR,r.all,i3];constructor
    ·rintro(z|⟨q,hq,z⟩)
     ·exact⟨p,uN ..,z⟩
     ·exact⟨q,uL _ hq,z⟩
    ·rintro⟨q,hq,z⟩;rcases vn.mp hq with y|y
     ·rw[y]at z;exact .inl z
     ·exact .inr ⟨q,y,z⟩
 obtain⟨d1,d2,d3⟩:=gen pr c1 c2;refine⟨d1,d2,fun s=>⟨fun z=>?_,fun z=>?_⟩⟩
 ·obtain⟨p,hp,b⟩:=(d3 s).mp z;exact(c1 p hp).pc.brd b
 ·obtain⟨z1,z2⟩:=aP.mp z;obtain⟨j,hj,e1,e2,b1⟩:=fW hw (show grd w h g (s.d.cx s.x) (s.d.cy s.y)=true from z1);obtain⟨p,hp,bp⟩:=c3 j b1;refine(d3 s).mpr ⟨p,hp,aP.mpr ⟨?_,?_⟩⟩
  ·show grd w h p (s.d.cx s.x) (s.d.cy s.y)=true;rw[e1,e2,dS hw hj];exact bp
  ·cases y:at4 (grd w h p) s.x s.y s.d.rt with
   |false=>rfl
   |true=>rw[(c1 p hp).pc.at4 y]at z2;cases z2
end
section
variable{G:Gr}{Ws Vs:List (List Sd)}{W:List Sd}
theorem mF(G:Gr)(s:Sd)(j:Nat):∀k,itr G (itr G s j) k=itr G s (j+k)
 | 0=>rfl
 |k+1=>by show nxt G (itr G (itr G s j) k)=nxt G (itr G s (j+k));rw[mF G s j k]
theorem qf{p q:Pt}(h1:¬oq p q)(h2:¬oq q p):p=q:=by unfold oq at h1 h2;exact Prod.ext (by omega) (by omega)
theorem jd{s:Sd}{n m:Nat}(n0:0<n)(e:itr G s n=s)(nd:(wlk G s m).Nodup):m<=n:=Nat.le_of_not_lt fun z=>by have:=vS.mp (List.nodup_iff_pairwise_ne.mp nd) 0 n (by unfold wlk;rw[uF,wb];omega) (by unfold wlk;rw[uF,wb];omega) n0;unfold wlk at this;rw[wR,wR,List.getElem_range,List.getElem_range]at this;exact this e.symm
theorem jj(r1:Rs G Ws)(r2:Rs G Vs)(hW:W∈Ws):W∈Vs:=by
 obtain⟨s,n,l⟩:=r1.wk W hW;obtain⟨V,hV,sV⟩:=wO.mp ((r2.all s).mpr l.b);obtain⟨t,m,k⟩:=r2.wk V hV;have sW:s∈W:=by obtain⟨X,e⟩:=l.cons;rw[e];exact uN ..
 have tW:t∈W:=by
  rw[k.e]at sV;obtain⟨j,hj,ej⟩:=u0.mp sV;rw[vD]at hj;have cl:∀i,itr G s i∈W:=fun i=>by
   induction i with
   |zero=>exact sW
   |succ i ih=>exact l.is.cl _ ih
  have:=cl (m-j);rw[<-ej,mF,show j+(m-j)=m by omega,k.cl]at this;exact this
 have e:=qf (l.least t tW) (k.least s sV);obtain rfl:=jn k.b l.b k.dir l.dir e;have a1:=jd l.n0 l.cl (k.e▸k.nd);have a2:=jd k.n0 k.cl (l.e▸l.nd);obtain rfl:n=m:=by omega
 rw[l.e,<-k.e];exact hV
theorem Rs.nodup(r:Rs G Ws):Ws.Nodup:=by have:=Rg.unlike r.wk r.nd;rw[List.nodup_iff_pairwise_ne,List.pairwise_map]at this;exact List.nodup_iff_pairwise_ne.mpr (this.imp fun h e=>h (congrArg dD e))
theorem mj(r1:Rs G Ws)(r2:Rs G Vs)(ok:∀s,brd G s=true->gN s.st)(s1:(Ws.map fun W=>ptN (dD W)).Pairwise (·<=·))(s2:(Vs.map fun W=>ptN (dD W)).Pairwise (·<=·)):Ws=Vs:=by
 have pm:Ws.Perm Vs:=fF r1.nodup r2.nodup fun W=>⟨jj r1 r2,jj r2 r1⟩;rw[List.pairwise_map]at s1 s2;refine List.Perm.eq_of_pairwise (le:=fun V W=>ptN (dD V)<=ptN (dD W)) (fun A B hA hB h1 h2=>?_) s1 s2 pm;obtain⟨s,n,l⟩:=r1.wk A hA;obtain⟨t,m,k⟩:=r2.wk B hB;rw[l.fst,k.fst]at h1 h2;have e:=qg (ok s l.b) (ok t k.b) (by omega);obtain rfl:=jn l.b k.b l.dir k.dir e;have a1:=jd l.n0 l.cl (k.e▸k.nd);have a2:=jd k.n0 k.cl (l.e▸l.nd);obtain rfl:n=m:=by omega
 rw[l.e,<-k.e]
end
end LO
namespace L2
open PySem PySem.Spec PyProof.Rows
open LO LT
def KpE(A:Addr->Prop)(K:Frag)(H:Hp)(v:V)(R:List Pt):Prop:=∃b,v=.ref b/\¬A b/\eU K H b R
section
variable{A A':Addr->Prop}{K:Frag}{H H':Hp}{v:V}{R:List Pt}
theorem KpE.same(s:aq H H')(h:KpE A K H v R):KpE A K H' v R:=by obtain⟨b,e,n,h⟩:=h;exact⟨b,e,n,h.same s⟩
theorem KpE.imp(i:∀b xs,H b=some (.lst xs)->A' b->A b)(h:KpE A K H v R):KpE A' K H v R:=by obtain⟨b,e,n,xs,h1,h2⟩:=h;exact⟨b,e,fun z=>n (i b xs h1 z),xs,h1,h2⟩
theorem KpE.put{p:Addr}{xs ys:List V}(hp:A p)(hl:H p=some (.lst xs))(h:KpE A K H v R):KpE A K (upd H p (.lst ys)) v R:=by obtain⟨b,e,n,h⟩:=h;exact⟨b,e,n,h.put (fun z=>n (z▸hp)) hl⟩
theorem KpE.rng(h:KpE A K H v R):fk K H v R:=by obtain⟨b,e,_,h⟩:=h;exact⟨b,e,h⟩
end
theorem n6{K:Frag}{H:Hp}:∀{vs:List V}{Ws:List (List Sd)},Paired (fk K H) vs (Ws.map az)->∃tz:List (Addr×List Sd),vs=tz.map (fun z=>V.ref z.1)/\tz.map (·.2)=Ws/\∀z∈tz,eU K H z.1 (az z.2)
 |_,[],.nil=>⟨[],rfl,rfl,fun _ z=>(vX z).elim⟩
 |_,W::Ws,.cons a p=>by obtain⟨b,rfl,hb⟩:=a;obtain⟨tz,rfl,rfl,hz⟩:=n6 p;exact⟨(b,W)::tz,rfl,rfl,fun z hz'=>(vn.mp hz').elim (fun e=>by rw[e];exact hb) (hz z)⟩
theorem sP{K:Frag}{H:Hp}{G:Gr}{tz:List (Addr×List Sd)}(wk:∀W∈tz.map (·.2),∃s n,LW G W s n)(hz:∀z∈tz,eU K H z.1 (az z.2)):∀z∈tz.map (fun z=>((z.1,dD z.2):Addr×(Int×Int))),PlA K H z.1 z.2:=fun z hz'=>by
 obtain⟨y,hy,rfl⟩:=u0.mp hz';obtain⟨s,n,l⟩:=wk y.2 (wK hy);obtain⟨R,eR⟩:=l.head;obtain⟨xs,h1,h2⟩:=hz y hy;rw[eR]at h2;cases h2 with
 |cons hp _=>obtain⟨p,rfl,hp⟩:=hp;refine⟨p,_,h1,?_⟩;show SqT K H p [.int (dD y.2).1,.int (dD y.2).2];rw[l.fst];exact hp
end L2
namespace My
open PySem L2 LM PyProof.Rows
noncomputable abbrev Pg:Program:=PySem.Challenge.rw_landroll_k19_whole_rings_of_pieces.prog
noncomputable def top(i:Nat):Stmt:=PySem.Challenge.pw_landroll_k19_whole_rings_of_pieces.main.body.getD i (.Pass ⟨0,0,0,0⟩)
section
set_option maxHeartbeats 4000000
local macro_rules
 | `(tactic|trivial)=> `(tactic|first|exact Or.inl rfl|exact Or.inr rfl|decide+kernel|exact⟨rfl,rfl,rfl,by decide+kernel,rfl,by decide+kernel,by decide+kernel⟩)
variable{P:Program}{w:World}{K:Frag}{mg:Str->Option Value}{base:Heap}
variable(B:Bn mg)
variable(mR:mg "sum"=none)
def nX(K:Frag):Sp:=fun vs H Q _=>∃(c:Nat)(k:Int),vs=[.int c,.int k]/\Q (.bl (decide (0<=k)&&c.testBit k.toNat)) H
variable(mM:Df P w K mg base 1 "has" ["cells","cell"] (nX K))
theorem rF:aB ["cells","cell"] ["cells","cell"] (au (top 1)):=by trivial
include B in
theorem rZ(T:Tx K mg "has" (top 1) ["cells","cell"]):Df P w K mg base 1 "has" ["cells","cell"] (nX K):=by
 refine T.df rF (by rintro _ _ _ _ ⟨c,k,rfl,q⟩;rfl) ?_;rintro f _ A _ s H _ Q E hr ⟨c,k,rfl,q⟩;refine⟨_,(ai (aC (kU (cB tJ (pv 1) ae (aG _)) (gR (cB dz (aj oE (aj rV (pv 0) (pv 1)) ae) ae (aG _)))))),?_⟩;refine⟨_,rfl,_,_,rfl,rfl,_,rfl,?_⟩;refine bP (fun h0=>?_) (fun h0=>?_)
 ·have h0':0<=k:=wu h0;refine⟨_,rfl,_,rfl,_,_,rfl,rfl,h0',_,_,rfl,rfl,rfl,?_⟩;rw[sy c k h0'];exact q
 ·have e:decide (0<=k)=false:=by simpa using h0
  rw[e]at q;exact q
def fB(K:Frag):Sp:=fun vs H Q _=>∃(a:Addr)(w h k:Int),vs=[.ref a,.int k]/\SqT K H a [.int w,.int h]/\(0<w/\w<1073741824)/\Q (.int (k % w)) H
variable(du:Df P w K mg base 1 "column_of" ["floor","cell"] (fB K))
theorem jh:aB ["floor","cell"] ["floor","cell"] (au (top 3)):=by trivial
include B in
theorem ju(T:Tx K mg "column_of" (top 3) ["floor","cell"]):Df P w K mg base 1 "column_of" ["floor","cell"] (fB K):=by refine T.df jh (by rintro _ _ _ _ ⟨a,w,h,k,rfl,hT,hw,q⟩;rfl) ?_;rintro f _ A _ s H _ Q E hr ⟨a,w,h,k,rfl,hT,hw,q⟩;refine⟨_,(ai (aC (aj a8 (pv 1) (aR aS (pv 0) ae (fun _ _=>rfl))))),?_⟩;exact⟨_,rfl,_,rfl,a,_,_,_,rfl,rfl,hT,rfl,_,_,rfl,rfl,hw.1,q⟩
def iI(K:Frag):Sp:=fun vs H Q _=>∃(a:Addr)(w h k:Int),vs=[.ref a,.int k]/\SqT K H a [.int w,.int h]/\(0<w/\w<1073741824)/\Q (.int (k / w)) H
variable(fK:Df P w K mg base 1 "row_of" ["floor","cell"] (iI K))
theorem m7:aB ["floor","cell"] ["floor","cell"] (au (top 4)):=by trivial
include B in
theorem nu(T:Tx K mg "row_of" (top 4) ["floor","cell"]):Df P w K mg base 1 "row_of" ["floor","cell"] (iI K):=by refine T.df m7 (by rintro _ _ _ _ ⟨a,w,h,k,rfl,hT,hw,q⟩;rfl) ?_;rintro f _ A _ s H _ Q E hr ⟨a,w,h,k,rfl,hT,hw,q⟩;refine⟨_,(ai (aC (aj bL (pv 1) (aR aS (pv 0) ae (fun _ _=>rfl))))),?_⟩;exact⟨_,rfl,_,rfl,a,_,_,_,rfl,rfl,hT,rfl,_,_,rfl,rfl,hw,q⟩
def gI(K:Frag):Sp:=fun vs H Q _=>∃(b:Addr)(s:LO.Sd),vs=[.ref b]/\LT.c0 K H b s/\∀l H',aq H H'->SqT K H' l [.int s.d.dx,.int s.d.dy]->Q (.ref l) H'
variable(bM:Df P w K mg base 1 "step_of" ["side"] (gI K))
theorem kP:aB ["side"] ["side"] (au (top 8)):=by trivial
include B in
theorem kY(T:Tx K mg "step_of" (top 8) ["side"]):Df P w K mg base 1 "step_of" ["side"] (gI K):=by refine T.df kP (by rintro _ _ _ _ ⟨b,s,rfl,hs,q⟩;rfl) ?_;rintro f _ A _ s H _ Q E hr ⟨b,s,rfl,hs,q⟩;refine⟨_,(ai (aC (aV (aa (aj bu (aR aS (aR aS (pv 0) ae (fun _ _=>rfl)) ae (fun _ _=>rfl)) (aR aS (aR aS (pv 0) ae (fun _ _=>rfl)) ae (fun _ _=>rfl))) (aa (aj bu (aR aS (aR aS (pv 0) ae (fun _ _=>rfl)) ae (fun _ _=>rfl)) (aR aS (aR aS (pv 0) ae (fun _ _=>rfl)) ae (fun _ _=>rfl))) ag))))),?_⟩;obtain⟨p,r,h1,h2,h3⟩:=hs;refine⟨_,rfl,b,_,_,_,rfl,rfl,h1,aA (j:=1) rfl,r,_,_,_,rfl,rfl,h3,aA (j:=0) rfl,_,rfl,b,_,_,_,rfl,rfl,h1,aA (j:=0) rfl,p,_,_,_,rfl,rfl,h2,aA (j:=0) rfl,_,_,rfl,rfl,_,rfl,b,_,_,_,rfl,rfl,h1,aA (j:=1) rfl,r,_,_,_,rfl,rfl,h3,aA (j:=1) rfl,_,rfl,b,_,_,_,rfl,rfl,h1,aA (j:=0) rfl,p,_,_,_,rfl,rfl,h2,aA (j:=1) rfl,_,_,rfl,rfl,aE rfl,fun l hl=>?_⟩;exact q l _ (aq.upd hl) (sq2 (SqT.of ab) (by show s.x+s.d.dx-s.x=_;omega) (by show s.y+s.d.dy-s.y=_;omega))
def eg(K:Frag):Sp:=fun vs H Q _=>∃(a:Addr)(ns:List Int)(k:Nat),vs=[.ref a,.int k]/\SqL K H a (ns.map V.int)/\Q (.int (ns.getD k 0)) H
variable(bA:Df P w K mg base 1 "_law_cell_at" ["_law_script","_law_k"] (eg K))
theorem gM:aB ["_law_script","_law_k"] ["_law_script","_law_k"] (au (top 14)):=by trivial
include B in
theorem gV(T:Tx K mg "_law_cell_at" (top 14) ["_law_script","_law_k"]):Df P w K mg base 1 "_law_cell_at" ["_law_script","_law_k"] (eg K):=by
 refine T.df gM (by rintro _ _ _ _ ⟨a,ns,k,rfl,hS,q⟩;rfl) ?_;rintro f _ A _ s H _ Q E hr ⟨a,ns,k,rfl,hS,q⟩;refine bb ?_;intro kX;refine af 1 (ai (aC ae)) ?_;intro kR1 pR1;refine⟨_,(ah (br (aM oB (pv 1) (a7 b7 (by rfl) B.len PySem.boot_len (aa (pv 0) ag)) (aG _)) (ai (aC (aR eO (pv 0) (pv 1) (fun _ _=>rfl)))) aF) pR1),?_⟩;refine⟨_,rfl,_,rfl,a,_,rfl,.inl hS,_,_,rfl,rfl,_,rfl,?_⟩;refine bP (fun h1=>?_) (fun h1=>?_)
 ·have h1':k<ns.length:=by
   have:=wu h1;rw[uF]at this;omega
  refine⟨_,rfl,_,rfl,a,_,_,_,rfl,rfl,hS,aA (show(ns.map V.int)[k]?=some (.int (ns.getD k 0)) by simp[h1',List.getD]),q⟩
 ·have h1':¬k<ns.length:=fun z=>h1 (by
   rw[uX,uF]
   omega)
  have e:ns.getD k 0=0:=by simp[List.getD,Nat.le_of_not_lt h1']
  rw[e]at q;exact q
def fv(K:Frag):Sp:=fun vs H Q _=>∃(x:V)(n:String),vs=[x]/\dG K H x (.type n)/\Q (.bl (isI x)) H
variable(cF:Df P w K mg base 1 "_law_whole" ["_law_found"] (fv K))
theorem jf:aB ["_law_found"] ["_law_found"] (au (top 15)):=by trivial
include B in
theorem jo(T:Tx K mg "_law_whole" (top 15) ["_law_found"]):Df P w K mg base 1 "_law_whole" ["_law_found"] (fv K):=by
 refine T.df jf (by rintro _ _ _ _ ⟨x,n,rfl,ty,q⟩;rfl) ?_;rintro f _ A _ s H _ Q E hr ⟨x,n,rfl,ty,q⟩;refine⟨_,(ai (aC (kU (a7 fO (by rfl) B.isinstance boot_isinstance (aa (pv 0) (aa (fG (x:="int") (v:=.ty "int") (by rfl) B.int boot_int rfl) ag))) (gR (rQ (a7 fO (by rfl) B.isinstance boot_isinstance (aa (pv 0) (aa (fG (x:="bool") (v:=.ty "bool") (by rfl) B.bool boot_bool rfl) ag)))))))),?_⟩;have k1:=qI K ty;have k2:=oX K ty;refine⟨_,rfl,_,_,_,_,rfl,ty,k1,_,rfl,?_⟩;refine bP (fun h1=>?_) (fun h1=>?_)
 ·refine⟨_,rfl,_,_,_,_,rfl,ty,k2,_,rfl,?_⟩;cases x<;>simp_all [isI,isB]
 ·cases x<;>simp_all [isI,isB]
def gf(K:Frag):Sp:=fun vs H Q _=>∃(c:Int),vs=[.int c]/\∀r:Int,Q (.int r) H
variable(cq:Df P w K mg base 1 "_law_bits" ["_law_cell"] (gf K))
theorem gn:aB ["_law_cell","_law_one"] ["_law_cell"] (au (top 16)):=by trivial
include B in
theorem j8(T:Tx K mg "_law_bits" (top 16) ["_law_cell"]):Df P w K mg base 1 "_law_bits" ["_law_cell"] (gf K):=by refine T.df gn (by rintro _ _ _ _ ⟨c,rfl,q⟩;rfl) ?_;rintro f _ A _ s H _ Q E hr ⟨c,rfl,q⟩;refine bb ?_;intro kX;refine af 1 (ai (aC (aj rU (pv 1) (aj bL (pv 1) ae)))) ?_;intro kR1 pR1;refine⟨_,(ah (ao (i:=1) gn.nd rfl (by trivial) (aj a8 (aj dO (aj a8 (pv 0) (aj oA ae ae)) ae) (aj oA ae ae))) pR1),?_⟩;refine⟨_,rfl,_,_,rfl,rfl,⟨by decide,by decide,by decide⟩,_,_,rfl,rfl,(by show(0:Int)<_;decide),_,_,rfl,rfl,.inl (tK c),_,_,rfl,rfl,⟨by decide,by decide,by decide⟩,_,_,rfl,rfl,(by show(0:Int)<_;decide),?_⟩;exact⟨_,rfl,_,rfl,_,_,rfl,rfl,⟨by decide,by decide⟩,_,_,rfl,rfl,q _⟩
def fw(K:Frag):Sp:=fun vs H Q _=>∃(r:Int)(w h:Nat),vs=[.int r,.int w,.int h]/\(0<w/\w<=8/\0<h/\h<=8)/\∀(v:Int) H',aq H H'->Q (.int v) H'
variable(dj:Df P w K mg base 1 "_law_shape" ["_law_rest","_law_wide","_law_high"] (fw K))
theorem aU:aB ["_law_rest","_law_wide","_law_high","_law_found","_law_k","_law_x","_law_y","_law_held"] ["_law_rest","_law_wide","_law_high"] (au (top 17)):=by trivial
include B in
theorem jq(T:Tx K mg "_law_shape" (top 17) ["_law_rest","_law_wide","_law_high"]):Df P w K mg base 1 "_law_shape" ["_law_rest","_law_wide","_law_high"] (fw K):=by
 refine T.df aU (by rintro _ _ _ _ ⟨r,w,h,rfl,⟨hw,hw8,hh,hh8⟩,q⟩;rfl) ?_;rintro f _ A _ s H _ Q E hr ⟨r,w,h,rfl,⟨hw,hw8,hh,hh8⟩,q⟩;refine bb ?_;intro kX;refine af 2 (ai (aC (pv 3))) ?_;intro kR2 pR2;refine aK 1 3 (ai (br (aM mv (pv 7) (cB dz (pv 4) (aj a8 (aj bL (pv 0) ae) (aj dO (pv 1) (pv 2))) (aG _)) (aG _)) (ai (ao (i:=3) aU.nd rfl (by trivial) (aj bB (pv 3) (aj dN ae (pv 4))))) aF)) ?_;intro kS1x3 pS1x3;refine aK 1 2 (bz (br (aM dz (aj a8 (pv 0) ae) ae (aG _)) (ai (ao (i:=7) aU.nd rfl (by trivial) (rn (cB dz (aj a8 (pv 6) ae) ae (aG _)) (gR (cB dz (pv 5) (aR eO (cQ (aa (aj bu (pv 1) ae) (aa ae ag))) (aj a8 (aj bL (pv 6) ae) ae) (fun _ _=>rfl)) (aG _)))))) (ai (br (aM dz (aj a8 (pv 0) ae) ae (aG _)) (ai (ao (i:=7) aU.nd rfl (by trivial) (rn (cB iQ (pv 5) (aV (aa ae (aa (aj bu (pv 1) ae) ag))) (by with_unfolding_all rfl)) (gR (cB iQ (pv 6) (aV (aa ae (aa (aj bu (pv 2) ae) ag))) (by with_unfolding_all rfl)))))) (ai (ao (i:=7) aU.nd rfl (by trivial) (cB dz (aj a8 (aj bB (pv 5) (pv 6)) ae) (aj a8 (aj bL (pv 0) ae) ae) (aG _))))))) pS1x3) ?_;intro kS1x2 pS1x2;refine aK 1 1 (ah (ao (i:=6) aU.nd rfl (by trivial) (aj bL (pv 4) (pv 1))) pS1x2) ?_;intro kS1x1 pS1x1;refine aK 1 0 (ah (ao (i:=5) aU.nd rfl (by trivial) (aj a8 (pv 4) (pv 1))) pS1x1) ?_;intro kS1x0 pS1x0;refine af 1 (ah (cG vR rfl (cP (by rfl) B.range (aa (aj dO (pv 1) (pv 2)) ag)) (aN (i:=4) aU.nd rfl (by trivial)) pS1x0) pR2) ?_;intro kR1 pR1;refine⟨_,(ah (ao (i:=3) aU.nd rfl (by trivial) ae) pR1),?_⟩;have hwh:w*h<=64:=Nat.mul_le_mul hw8 hh8;have hwp:0<w*h:=Nat.mul_pos hw hh;have e1:((w:Int)*(h:Int))=((w*h:Nat):Int):=by simp
 refine⟨_,rfl,_,rfl,_,_,rfl,rfl,.inl ⟨by omega,by omega⟩,_,rfl,by omega,by omega,?_⟩;refine fX (lo:=0) (fun i σ H2=>∃v o4 o5 o6 o7,σ=[some (.int r),some (.int w),some (.int h),some (.int v),o4,o5,o6,o7]/\aq H H2) ⟨0,none,none,none,none,rfl,aq.refl _⟩ ?_ ?_
 ·rintro i σ H2 hi ⟨v,o4,o5,o6,o7,rfl,s2⟩;refine d7 ?_;intro kD1;have hi':i<64:=by
   rw[e1,vE]at hi;omega
  have y2:=Int.emod_two_eq (((0+(i:Int)) / (w:Int)) / 2);refine⟨_,rfl,_,rfl,_,_,rfl,rfl,(by omega),_,rfl,_,rfl,_,_,rfl,rfl,⟨by omega,by omega⟩,?_⟩;refine⟨fun σ' H'=>∃b,σ'=[some (.int r),some (.int w),some (.int h),some (.int v),some (.int (0+(i:Int))),some (.int ((0+(i:Int)) % (w:Int))),some (.int ((0+(i:Int)) / (w:Int))),some (.bl b)]/\aq H H',?_,?_⟩
  ·refine fg ?_;intro kD2;refine⟨_,rfl,_,_,rfl,rfl,(by show(0:Int)<_;decide),rfl,_,rfl,?_⟩;refine bP (fun h1=>?_) (fun h1=>?_)
   ·refine⟨_,rfl,_,_,rfl,rfl,(by show(0:Int)<_;decide),rfl,_,rfl,?_⟩;refine bP (fun h2=>?_) (fun h2=>?_)
    ·exact⟨_,rfl,s2⟩
    ·refine⟨_,rfl,_,rfl,_,_,rfl,rfl,aE rfl,fun l hl=>?_⟩;have s3:=s2.trans (aq.upd (o:=.lst [.int ((w:Int)-1),.int 0]) hl);obtain⟨v3,y3⟩:∃v3:Int,atI [V.int ((w:Int)-1),.int 0] ((((0+(i:Int)) / (w:Int)) / 2) % 2)=some (.int v3):=by
      rcases y2 with y2|y2
      ·rw[y2];exact⟨_,rfl⟩
      ·rw[y2];exact⟨_,rfl⟩
     refine⟨_,rfl,_,_,rfl,rfl,⟨by decide,by decide⟩,_,_,rfl,rfl,(by show(0:Int)<_;decide),l,_,_,_,rfl,rfl,SqL.of ab,y3,rfl,?_⟩;exact⟨_,rfl,s3⟩
   ·refine⟨_,rfl,_,_,rfl,rfl,(by show(0:Int)<_;decide),rfl,_,rfl,?_⟩;refine bP (fun h2=>?_) (fun h2=>?_)
    ·refine⟨_,rfl,_,rfl,_,_,rfl,rfl,aE rfl,fun t ht=>?_⟩;have s3:=s2.trans (aq.upd (o:=.tup [.int 0,.int ((w:Int)-1)]) ht);refine⟨t,_,rfl,.inr (SqT.of ab),rfl,rfl,_,rfl,?_⟩;refine bP (fun h3=>?_) (fun h3=>?_)
     ·exact⟨_,rfl,s3⟩
     ·refine⟨_,rfl,_,rfl,_,_,rfl,rfl,aE rfl,fun t2 ht2=>?_⟩;have s4:=s3.trans (aq.upd (o:=.tup [.int 0,.int ((h:Int)-1)]) ht2);refine⟨t2,_,rfl,.inr (SqT.of ab),rfl,rfl,?_⟩;exact⟨_,rfl,s4⟩
    ·refine⟨_,rfl,_,rfl,_,_,rfl,rfl,_,_,rfl,rfl,(by show(0:Int)<_;decide),_,rfl,_,_,rfl,rfl,⟨by decide,by decide⟩,_,_,rfl,rfl,(by show(0:Int)<_;decide),rfl,?_⟩;exact⟨_,rfl,s2⟩
  ·rintro σ' H' ⟨b,rfl,s5⟩;refine⟨_,rfl,_,rfl,_,rfl,_,_,rfl,rfl,⟨by decide,by decide⟩,_,rfl,_,rfl,_,_,rfl,rfl,.inl ⟨by omega,by omega⟩,_,_,rfl,rfl,(by rw[e1];omega),rfl,rfl,_,rfl,?_⟩;refine bP (fun h9=>?_) (fun h9=>?_)
   ·refine⟨_,rfl,_,rfl,_,_,rfl,rfl,⟨by omega,by omega,by decide⟩,_,_,rfl,rfl,?_⟩;exact⟨_,_,_,_,_,rfl,s5⟩
   ·exact⟨_,_,_,_,_,rfl,s5⟩
 ·rintro σ H2 ⟨v,o4,o5,o6,o7,rfl,s2⟩;exact⟨_,rfl,q _ _ s2⟩
def gJ(K:Frag):Sp:=fun vs H Q _=>∃(c k:Nat),vs=[.int c,.int k]/\k<=64/\Q (.bl (c.testBit k)) H
variable(bo:Df P w K mg base 1 "_law_has" ["_law_ground_here","_law_cell"] (gJ K))
theorem kQ:aB ["_law_ground_here","_law_cell"] ["_law_ground_here","_law_cell"] (au (top 19)):=by trivial
include B in
theorem kZ(T:Tx K mg "_law_has" (top 19) ["_law_ground_here","_law_cell"]):Df P w K mg base 1 "_law_has" ["_law_ground_here","_law_cell"] (gJ K):=by refine T.df kQ (by rintro _ _ _ _ ⟨c,k,rfl,hk,q⟩;rfl) ?_;rintro f _ A _ s H _ Q E hr ⟨c,k,rfl,hk,q⟩;refine⟨_,(ai (aC (cB dz (aj a8 (aj oD (pv 0) (aj dN ae (pv 1))) ae) ae (aG _)))),?_⟩;refine⟨_,rfl,_,rfl,_,_,rfl,rfl,⟨by omega,by omega,by decide⟩,_,_,rfl,rfl,⟨j0 _,qh k hk⟩,_,_,rfl,rfl,(by show(0:Int)<_;decide),rfl,?_⟩;rw[qE c k];exact q
def gc(K:Frag):Sp:=fun vs H Q _=>∃(w h k:Int),vs=[.int w,.int h,.int k]/\(0<w/\w<1073741824)/\∀l,H l=none->Q (.ref l) (upd H l (.lst ((oM w h k).map V.int)))
variable(dX:Df P w K mg base 1 "_law_near" ["_law_wide","_law_high","_law_cell"] (gc K))
theorem gh:aB ["_law_wide","_law_high","_law_cell","_law_found"] ["_law_wide","_law_high","_law_cell"] (au (top 20)):=by trivial
include B in
theorem j7(T:Tx K mg "_law_near" (top 20) ["_law_wide","_law_high","_law_cell"]):Df P w K mg base 1 "_law_near" ["_law_wide","_law_high","_law_cell"] (gc K):=by
 refine T.df gh (by rintro _ _ _ _ ⟨w,h,k,rfl,hw,q⟩;rfl) ?_;rintro f _ A _ s H _ Q E hr ⟨w,h,k,rfl,hw,q⟩;refine bb ?_;intro kX;refine af 5 (ai (aC (pv 3))) ?_;intro kR5 pR5;refine af 4 (bz (br (aM oB (aj bL (pv 2) (pv 0)) (aj bu (pv 1) ae) (aG _)) (ai (cA (e9 vB vI vH bg (pv 3) (aa (aj bB (pv 2) (pv 0)) ag)))) aF) pR5) ?_;intro kR4 pR4;refine af 3 (bz (br (aM oB (aj a8 (pv 2) (pv 0)) (aj bu (pv 0) ae) (aG _)) (ai (cA (e9 vB vI vH bg (pv 3) (aa (aj bB (pv 2) ae) ag)))) aF) pR4) ?_;intro kR3 pR3;refine af 2 (bz (br (aM oC (aj a8 (pv 2) (pv 0)) ae (aG _)) (ai (cA (e9 vB vI vH bg (pv 3) (aa (aj bu (pv 2) ae) ag)))) aF) pR3) ?_;intro kR2 pR2;refine af 1 (bz (br (aM oC (aj bL (pv 2) (pv 0)) ae (aG _)) (ai (cA (e9 vB vI vH bg (pv 3) (aa (aj bu (pv 2) (pv 0)) ag)))) aF) pR2) ?_;intro kR1 pR1;refine⟨_,(ah (ao (i:=3) gh.nd rfl (by trivial) (cQ ag)) pR1),?_⟩;refine⟨vN _,fun l hl=>?_⟩;have q':=q l hl;refine⟨fun σ' H'=>σ'=[some (.int w),some (.int h),some (.int k),some (.ref l)]/\H'=upd H l (.lst ((([]:List Int)++if decide (0<k / w)=true then[k-w]else[]).map V.int)),?_,?_⟩
 ·refine fg ?_;intro kD1;refine⟨_,rfl,_,rfl,_,_,rfl,rfl,hw,_,_,rfl,rfl,_,rfl,?_⟩;refine bP (fun h1=>?_) (fun h1=>?_)
  ·refine⟨_,rfl,.inl ⟨rfl,_,SqL.of ab⟩,_,rfl,_,rfl,_,_,rfl,rfl,l,_,_,rfl,rfl,ab,?_,?_⟩
   ·exact aD (by simp only[uF,uO,List.length_nil];(repeat' split)<;>simp)
   ·have e:(([]:List Int)++if decide (0<k / w)=true then[k-w]else[])=([]:List Int)++[k-w]:=(by rw[uM h1]);refine⟨rfl,?_⟩;rw[fu,e];simp only[vW,vp,List.map_nil,List.nil_append]
  ·have e:(([]:List Int)++if decide (0<k / w)=true then[k-w]else[])=([]:List Int):=(by rw[uK h1,vG]);refine⟨rfl,?_⟩;rw[e]<;>rfl
 rintro σ' H' ⟨rfl,rfl⟩;refine⟨fun σ' H'=>σ'=[some (.int w),some (.int h),some (.int k),some (.ref l)]/\H'=upd H l (.lst (((([]:List Int)++if decide (0<k / w)=true then[k-w]else[])++if decide (0<k % w)=true then[k-1]else[]).map V.int)),?_,?_⟩
 ·refine fg ?_;intro kD2;refine⟨_,rfl,_,rfl,_,_,rfl,rfl,hw.1,_,_,rfl,rfl,_,rfl,?_⟩;refine bP (fun h1=>?_) (fun h1=>?_)
  ·refine⟨_,rfl,.inl ⟨rfl,_,SqL.of ab⟩,_,rfl,_,_,rfl,rfl,l,_,_,rfl,rfl,ab,?_,?_⟩
   ·exact aD (by simp only[uF,uO,List.length_nil];(repeat' split)<;>simp)
   ·have e:((([]:List Int)++if decide (0<k / w)=true then[k-w]else[])++if decide (0<k % w)=true then[k-1]else[])=(([]:List Int)++if decide (0<k / w)=true then[k-w]else[])++[k-1]:=(by rw[uM h1]);refine⟨rfl,?_⟩;rw[fu,e];simp only[vW,vp,List.map_nil,List.nil_append]
  ·have e:((([]:List Int)++if decide (0<k / w)=true then[k-w]else[])++if decide (0<k % w)=true then[k-1]else[])=(([]:List Int)++if decide (0<k / w)=true then[k-w]else[]):=(by rw[uK h1,vG]);refine⟨rfl,?_⟩;rw[e]<;>rfl
 rintro σ' H' ⟨rfl,rfl⟩;refine⟨fun σ' H'=>σ'=[some (.int w),some (.int h),some (.int k),some (.ref l)]/\H'=upd H l (.lst ((((([]:List Int)++if decide (0<k / w)=true then[k-w]else[])++if decide (0<k % w)=true then[k-1]else[])++if decide (k % w<w-1)=true then[k+1]else[]).map V.int)),?_,?_⟩
 ·refine fg ?_;intro kD3;refine⟨_,rfl,_,rfl,_,_,rfl,rfl,hw.1,_,rfl,_,_,rfl,rfl,_,_,rfl,rfl,_,rfl,?_⟩;refine bP (fun h1=>?_) (fun h1=>?_)
  ·refine⟨_,rfl,.inl ⟨rfl,_,SqL.of ab⟩,_,rfl,_,_,rfl,rfl,l,_,_,rfl,rfl,ab,?_,?_⟩
   ·exact aD (by simp only[uF,uO,List.length_nil];(repeat' split)<;>simp)
   ·have e:(((([]:List Int)++if decide (0<k / w)=true then[k-w]else[])++if decide (0<k % w)=true then[k-1]else[])++if decide (k % w<w-1)=true then[k+1]else[])=((([]:List Int)++if decide (0<k / w)=true then[k-w]else[])++if decide (0<k % w)=true then[k-1]else[])++[k+1]:=(by rw[uM h1]);refine⟨rfl,?_⟩;rw[fu,e];simp only[vW,vp,List.map_nil,List.nil_append]
  ·have e:(((([]:List Int)++if decide (0<k / w)=true then[k-w]else[])++if decide (0<k % w)=true then[k-1]else[])++if decide (k % w<w-1)=true then[k+1]else[])=((([]:List Int)++if decide (0<k / w)=true then[k-w]else[])++if decide (0<k % w)=true then[k-1]else[]):=(by rw[uK h1,vG]);refine⟨rfl,?_⟩;rw[e]<;>rfl
 rintro σ' H' ⟨rfl,rfl⟩;refine⟨fun σ' H'=>σ'=[some (.int w),some (.int h),some (.int k),some (.ref l)]/\H'=upd H l (.lst (((((([]:List Int)++if decide (0<k / w)=true then[k-w]else[])++if decide (0<k % w)=true then[k-1]else[])++if decide (k % w<w-1)=true then[k+1]else[])++if decide (k / w<h-1)=true then[k+w]else[]).map V.int)),?_,?_⟩
 ·refine fg ?_;intro kD4;refine⟨_,rfl,_,rfl,_,_,rfl,rfl,hw,_,rfl,_,_,rfl,rfl,_,_,rfl,rfl,_,rfl,?_⟩;refine bP (fun h1=>?_) (fun h1=>?_)
  ·refine⟨_,rfl,.inl ⟨rfl,_,SqL.of ab⟩,_,rfl,_,rfl,_,_,rfl,rfl,l,_,_,rfl,rfl,ab,?_,?_⟩
   ·exact aD (by simp only[uF,uO,List.length_nil];(repeat' split)<;>simp)
   ·have e:((((([]:List Int)++if decide (0<k / w)=true then[k-w]else[])++if decide (0<k % w)=true then[k-1]else[])++if decide (k % w<w-1)=true then[k+1]else[])++if decide (k / w<h-1)=true then[k+w]else[])=(((([]:List Int)++if decide (0<k / w)=true then[k-w]else[])++if decide (0<k % w)=true then[k-1]else[])++if decide (k % w<w-1)=true then[k+1]else[])++[k+w]:=(by rw[uM h1]);refine⟨rfl,?_⟩;rw[fu,e];simp only[vW,vp,List.map_nil,List.nil_append]
  ·have e:((((([]:List Int)++if decide (0<k / w)=true then[k-w]else[])++if decide (0<k % w)=true then[k-1]else[])++if decide (k % w<w-1)=true then[k+1]else[])++if decide (k / w<h-1)=true then[k+w]else[])=(((([]:List Int)++if decide (0<k / w)=true then[k-w]else[])++if decide (0<k % w)=true then[k-1]else[])++if decide (k % w<w-1)=true then[k+1]else[]):=(by rw[uK h1,vG]);refine⟨rfl,?_⟩;rw[e]<;>rfl
 rintro σ' H' ⟨rfl,rfl⟩;refine⟨_,rfl,?_⟩;simp only[List.nil_append,vg];exact q'
def gg(K:Frag):Sp:=fun vs H Q _=>∃(a:Addr)(R:List LO.Pt),vs=[.ref a]/\eU K H a R/\(∀p∈R,-20<=p.1/\p.1<=20/\ -20<=p.2/\p.2<=20)/\R.length<=256/\Q (.int (LO.eH R)) H
variable(dY:Df P w K mg base 1 "_law_area" ["_law_ring"] (gg K))
theorem bV:aB ["_law_ring","_law_total","_law_k","_law_one","_law_other"] ["_law_ring"] (au (top 24)):=by trivial
include B in
theorem j9(T:Tx K mg "_law_area" (top 24) ["_law_ring"]):Df P w K mg base 1 "_law_area" ["_law_ring"] (gg K):=by
 refine T.df bV (by rintro _ _ _ _ ⟨a,R,rfl,hx,pb,lR,q⟩;rfl) ?_;rintro f _ A _ s H _ Q E hr ⟨a,R,rfl,hx,pb,lR,q⟩;refine bb ?_;intro kX;refine af 2 (ai (aC (pv 1))) ?_;intro kR2 pR2;refine aK 1 2 (ai (ao (i:=1) bV.nd rfl (by trivial) (aj bu (aj bB (pv 1) (aj dO (aR aS (pv 3) ae (fun _ _=>rfl)) (aR aS (pv 4) ae (fun _ _=>rfl)))) (aj dO (aR aS (pv 4) ae (fun _ _=>rfl)) (aR aS (pv 3) ae (fun _ _=>rfl)))))) ?_;intro kS1x2 pS1x2;refine aK 1 1 (ah (ao (i:=4) bV.nd rfl (by trivial) (aR eO (pv 0) (pv 2) (fun _ _=>rfl))) pS1x2) ?_;intro kS1x1 pS1x1;refine aK 1 0 (ah (ao (i:=3) bV.nd rfl (by trivial) (aR eO (pv 0) (aj bu (pv 2) ae) (fun _ _=>rfl))) pS1x1) ?_;intro kS1x0 pS1x0;refine af 1 (ah (cG vR rfl (cP (by rfl) B.range (aa (a7 b7 (by rfl) B.len PySem.boot_len (aa (pv 0) ag)) ag)) (aN (i:=2) bV.nd rfl (by trivial)) pS1x0) pR2) ?_;intro kR1 pR1;refine⟨_,(ah (ao (i:=1) bV.nd rfl (by trivial) ae) pR1),?_⟩;obtain⟨xs,hx,px⟩:=hx;have lx:xs.length=R.length:=vx px;refine⟨_,rfl,a,xs,rfl,.inl (SqL.of hx),_,rfl,by omega,by omega,?_⟩;rw[vE];refine fX (lo:=0) (n:=xs.length) (fun i σ H2=>∃(o2 o3 o4:Option V),σ=[some (.ref a),some (.int (LO.cZ (·+·) 0 LO.cro (LO.lstP R) (R.take i))),o2,o3,o4]/\H2=H) ⟨none,none,none,rfl,rfl⟩ ?_ ?_
 ·rintro i σ H2 hi ⟨o2,o3,o4,rfl,rfl⟩;rw[show(0:Int)+(i:Int)=((i:Nat):Int) by omega];refine d7 ?_;intro kD1;have hi':xs[i]?=some xs[i]:=va hi;obtain⟨v',q1,q0,a1,hq1,⟨b,eb,hb⟩,hq0,⟨b',rfl,hb'⟩⟩:=gp px hi';have st:=LO.ou (op:=(·+·)) (u:=(0:Int)) (f:=LO.cro) (fun _ _ _=>Int.add_assoc ..) (fun _=>Int.zero_add _) (fun _=>Int.add_zero _) hq1 hq0;have mq1:q1∈R:=vi hq1;have mq0:q0∈R:=by
   cases e:(R.take i).getLast? with
   |some x=>rw[e]at hq0;cases hq0;exact vT (List.mem_of_getLast? e)
   |none=>rw[e]at hq0;exact List.mem_of_getLast? hq0
  have b1:=pb q1 mq1;have b0:=pb q0 mq0;rw[eb]at hi';refine⟨_,rfl,_,rfl,_,_,rfl,rfl,a,_,_,_,rfl,rfl,SqL.of hx,a1,?_⟩;refine⟨_,rfl,_,rfl,a,_,_,_,rfl,rfl,SqL.of hx,aA hi',?_⟩;refine⟨_,rfl,_,rfl,b',_,_,_,rfl,rfl,hb',aA (j:=0) rfl,_,rfl,b,_,_,_,rfl,rfl,hb,aA (j:=1) rfl,_,_,rfl,rfl,.inl ⟨by omega,by omega⟩,_,_,rfl,rfl,_,rfl,b,_,_,_,rfl,rfl,hb,aA (j:=0) rfl,_,rfl,b',_,_,_,rfl,rfl,hb',aA (j:=1) rfl,_,_,rfl,rfl,.inl ⟨by omega,by omega⟩,_,_,rfl,rfl,?_⟩;refine⟨some (.int (i:Nat)),some (.ref b'),some (.ref b),?_,rfl⟩;show[_,some (V.int (LO.cZ (·+·) 0 LO.cro (LO.lstP R) (R.take i)+q0.1*q1.2-q1.1*q0.2)),_,_,_]=_;rw[st,Int.add_sub_assoc];rfl
 ·rintro σ H2 ⟨o2,o3,o4,rfl,rfl⟩;refine⟨_,rfl,?_⟩;rw[lx,vO];unfold LO.eH at q;rw[LO.nZ]at q;exact q
def iJ(K:Frag):Sp:=fun vs H Q _=>∃(c:Nat),vs=[.int c]/\c<2^64/\∀l,H l=none->Q (.ref l) (upd H l (.lst ((b6 c).map fun k:Nat=>V.int (k:Int))))
variable(fL:Df P w K mg base 2 "listed" ["cells"] (iJ K))
theorem m8:aB ["cells"] ["cells"] (au (top 2)):=by trivial
include B mM in
theorem nv(T:Tx K mg "listed" (top 2) ["cells"]):Df P w K mg base 2 "listed" ["cells"] (iJ K):=by
 refine T.df m8 (by rintro _ _ _ _ ⟨c,rfl,hc,q⟩;rfl) ?_;rintro f _ A _ s H _ Q E hr ⟨c,rfl,hc,q⟩;refine⟨_,(ai (aC (cR ["cell"] [("cells",0)] (fN _ ["cells"]) rfl (by rfl) rfl (by trivial) (by trivial) (a9 (by rfl)) (dR (by rfl)) (mC ⟨rfl,rfl⟩ mN) (mC rfl mN) (dc (by decide)) (cP (by rfl) B.range (aa (ox PySem.F.plainAttrs_int PySem.F.slot_int_bit_length PySem.F.type_int_bit_length qv (pv 0)) ag)) (fun _ _ _ _=>aN (i:=0) (show(["cell","cells"]:List Str).Nodup by trivial) rfl (Or.inl rfl) (Or.inr rfl)) (fun _ _ _ _=>eD (cn (aL mM hr (aa (pv 1) (aa (pv 0) ag))))) (fun _ _ _ _=>(pv 0))))),?_⟩;have hb:=bits_le hc;refine⟨_,rfl,rfl,_,rfl,rfl,_,rfl,by omega,by omega,fun D hD=>?_⟩;refine hZ (fun i acc H2=>H2=upd H D (.lst acc)/\acc=((List.range i).filter c.testBit).map fun k:Nat=>V.int (k:Int)) ⟨rfl,rfl⟩ ?_ ?_
 ·rintro i acc H2 hi ⟨rfl,rfl⟩;refine gq ?_;intro kq1 kr1;have hi':i<Builtin.Int.intBits (c:Int):=by simpa using hi
  refine⟨_,rfl,_,rfl,c,_,rfl,_,rfl,?_⟩;rw[ng];refine bP (fun hb=>?_) (fun hb=>?_)
  ·refine⟨_,rfl,ab,?_,?_,?_⟩
   ·rw[uF];exact Nat.lt_of_le_of_lt (wF (List.length_filter_le _ _) (by rw[wb];omega)) (aD (by decide:64<=1000))
   ·rw[fu]
   ·rw[List.range_succ,wU,vW];simp[hb]
  ·refine⟨rfl,?_⟩;rw[List.range_succ,wU,vW];simp[hb]
 ·rintro acc H2 ⟨rfl,rfl⟩;have e:((Builtin.Int.intBits (c:Int):Nat):Int).toNat=Builtin.Int.intBits (c:Int):=by simp
  rw[e,lP hc];exact q D hD
def d9(K:Frag):Sp:=fun vs H Q _=>∃(a:Addr)(w h k:Nat),vs=[.ref a,.int (k:Nat)]/\SqT K H a [.int (w:Nat),.int (h:Nat)]/\(0<w/\w<=8)/\∀l vs H',aq H H'->H' l=some (.lst vs)->Paired (cX K H') vs (LO.gu ((k % w:Nat):Int) ((k / w:Nat):Int))->Q (.ref l) H'
variable(cC:Df P w K mg base 2 "sides_round" ["floor","cell"] (d9 K))
theorem bW:aB ["floor","cell","left","low","corners"] ["floor","cell"] (au (top 6)):=by trivial
include B du fK in
theorem gT(T:Tx K mg "sides_round" (top 6) ["floor","cell"]):Df P w K mg base 2 "sides_round" ["floor","cell"] (d9 K):=by
 refine T.df bW (by rintro _ _ _ _ ⟨a,w,h,k,rfl,hT,⟨hw,hw8⟩,q⟩;rfl) ?_;rintro f _ A _ s H _ Q E hr ⟨a,w,h,k,rfl,hT,⟨hw,hw8⟩,q⟩;refine bb ?_;intro kX;refine af 3 (ai (aC (cR ["place"] [("corners",4)] (fN _ ["corners"]) rfl (by rfl) rfl (by trivial) (by trivial) (a9 (by rfl)) (dR (by rfl)) (mC ⟨rfl,rfl⟩ mN) (mC rfl mN) (dc (by decide)) (cP (by rfl) B.range (aa ae ag)) (fun _ _ _ _=>aN (i:=0) (show(["place","corners"]:List Str).Nodup by trivial) rfl (Or.inl rfl) (Or.inr rfl)) (fun _ _ _ _=>fE) (fun _ _ _ _=>(aV (aa (aR (g8 (K:=K) rfl) (pv 1) (aj bu (pv 0) ae) (fun _ _=>rfl)) (aa (aR (g8 (K:=K) rfl) (pv 1) (pv 0) (fun _ _=>rfl)) ag))))))) ?_;intro kR3 pR3;refine af 2 (ah (ao (i:=4) bW.nd rfl (by trivial) (cQ (aa (aV (aa (pv 2) (aa (pv 3) ag))) (aa (aV (aa (aj bB (pv 2) ae) (aa (pv 3) ag))) (aa (aV (aa (aj bB (pv 2) ae) (aa (aj bB (pv 3) ae) ag))) (aa (aV (aa (pv 2) (aa (aj bB (pv 3) ae) ag))) ag)))))) pR3) ?_;intro kR2 pR2;refine af 1 (ah (ao (i:=3) bW.nd rfl (by trivial) (aL fK hr (aa (pv 0) (aa (pv 1) ag)))) pR2) ?_;intro kR1 pR1;refine⟨_,(ah (ao (i:=2) bW.nd rfl (by trivial) (aL du hr (aa (pv 0) (aa (pv 1) ag)))) pR1),?_⟩;refine⟨_,rfl,_,rfl,a,w,h,k,rfl,hT,⟨by omega,by omega⟩,?_⟩;refine⟨_,rfl,_,rfl,a,w,h,k,rfl,hT,⟨by omega,by omega⟩,?_⟩;obtain⟨x,ex⟩:∃x:Int,x=((k % w:Nat):Int):=⟨_,rfl⟩;obtain⟨y,ey⟩:∃y:Int,y=((k / w:Nat):Int):=⟨_,rfl⟩;have e1:((k:Nat):Int) % ((w:Nat):Int)=x:=by rw[ex];rfl
 have e2:((k:Nat):Int) / ((w:Nat):Int)=y:=by rw[ey];rfl
 rw[<-ex,<-ey]at q;simp only[e1,e2];refine⟨_,rfl,_,rfl,aE rfl,fun t1 ht1=>?_⟩;have u1:=aq.upd (o:=.tup [.int x,.int y]) ht1;have k1:SqT K (upd H t1 (.tup [.int x,.int y])) t1 [.int x,.int y]:=SqT.of ab;generalize (upd H t1 (.tup [.int x,.int y]))=H1 at u1 k1 ⊢;refine⟨_,rfl,_,_,rfl,rfl,_,rfl,aE rfl,fun t2 ht2=>?_⟩;have u2:=aq.upd (o:=.tup [.int (x+1),.int y]) ht2;have k2:SqT K (upd H1 t2 (.tup [.int (x+1),.int y])) t2 [.int (x+1),.int y]:=SqT.of ab;generalize (upd H1 t2 (.tup [.int (x+1),.int y]))=H2 at u2 k2 ⊢;refine⟨_,rfl,_,_,rfl,rfl,_,rfl,_,_,rfl,rfl,aE rfl,fun t3 ht3=>?_⟩;have u3:=aq.upd (o:=.tup [.int (x+1),.int (y+1)]) ht3;have k3:SqT K (upd H2 t3 (.tup [.int (x+1),.int (y+1)])) t3 [.int (x+1),.int (y+1)]:=SqT.of ab;generalize (upd H2 t3 (.tup [.int (x+1),.int (y+1)]))=H3 at u3 k3 ⊢;refine⟨_,rfl,_,rfl,_,_,rfl,rfl,aE rfl,fun t4 ht4=>?_⟩;have u4:=aq.upd (o:=.tup [.int x,.int (y+1)]) ht4;have k4:SqT K (upd H3 t4 (.tup [.int x,.int (y+1)])) t4 [.int x,.int (y+1)]:=SqT.of ab;generalize (upd H3 t4 (.tup [.int x,.int (y+1)]))=H4 at u4 k4 ⊢;refine⟨aE rfl,fun lc hlc=>?_⟩;have u5:=aq.upd (o:=.lst [.ref t1,.ref t2,.ref t3,.ref t4]) hlc;have k5:(upd H4 lc (.lst [.ref t1,.ref t2,.ref t3,.ref t4])) lc=some (.lst [.ref t1,.ref t2,.ref t3,.ref t4]):=ab;have z1:=(u2.trans (u3.trans (u4.trans u5))).tup k1;have z2:=(u3.trans (u4.trans u5)).tup k2;have z3:=(u4.trans u5).tup k3;have z4:=u5.tup k4;have s5:=u1.trans (u2.trans (u3.trans (u4.trans u5)));generalize (upd H4 lc (.lst [.ref t1,.ref t2,.ref t3,.ref t4]))=H5 at k5 z1 z2 z3 z4 s5 ⊢;refine⟨4,rfl,by decide,by decide,fun D hD=>?_⟩;refine rA (n:=4) (lo:=0) (fun i acc H6=>aq H5 H6/\H6 D=some (.lst acc)/\Paired (cX K H6) acc ((LO.gu x y).take i)) ⟨aq.upd hD,ab,.nil⟩ ?_ ?_
 ·rintro i acc H6 hi ⟨s6,h6,pr⟩;rw[show(0:Int)+(i:Int)=((i:Nat):Int) by omega];refine gq ?_;intro kq1 kr1;obtain⟨p,r,s,a1,a2,a3,a4,a5⟩:∃p r s,atI [V.ref t1,.ref t2,.ref t3,.ref t4] (((i:Nat):Int)-1)=some (.ref p)/\atI [V.ref t1,.ref t2,.ref t3,.ref t4] ((i:Nat):Int)=some (.ref r)/\(LO.gu x y)[i]?=some s/\SqT K H5 p [.int s.x,.int s.y]/\SqT K H5 r [.int s.ex,.int s.ey]:=by
   match i,hi with
   | 0,_=>exact⟨t4,t1,_,rfl,rfl,rfl,z4,sq2 z1 (by show x=x+0;omega) (by show y=y+1+ -1;omega)⟩
   | 1,_=>exact⟨t1,t2,_,rfl,rfl,rfl,z1,sq2 z2 rfl (by show y=y+0;omega)⟩
   | 2,_=>exact⟨t2,t3,_,rfl,rfl,rfl,z2,sq2 z3 (by show x+1=x+1+0;omega) rfl⟩
   | 3,_=>exact⟨t3,t4,_,rfl,rfl,rfl,z3,sq2 z4 (by show x=x+1+ -1;omega) (by show y+1=y+1+0;omega)⟩
  have lacc:acc.length<sizeLine:=by rw[vx pr,vb];exact aD (by omega)
  refine⟨_,rfl,_,rfl,_,_,rfl,rfl,lc,_,_,_,rfl,rfl,SqL.of (s6 _ _ k5),a1,_,rfl,_,rfl,lc,_,_,_,rfl,rfl,SqL.of (s6 _ _ k5),a2,aE rfl,fun t ht=>?_⟩;have s7:=aq.upd (o:=.tup [.ref p,.ref r]) ht;have tk2:=TK.lst (o:=.lst (acc++[.ref t])) (s7 _ _ h6);refine⟨s7 _ _ h6,lacc,fun b5 o5 e5=>?_,ab,?_⟩
  ·rw[ak (fun z=>by rw[z,hD]at e5;cases e5)];exact s7 _ _ (s6 _ _ e5)
  ·rw[vo,a3,vu];exact Paired.app (Paired.imp (fun _ _ z=>(z.tk s7.tk).tk tk2) pr) (.cons (cX.tk tk2 ⟨t,rfl,p,r,SqT.of ab,(s6.trans s7).tup a4,(s6.trans s7).tup a5⟩) .nil)
 rintro acc H6 ⟨s6,h6,pr⟩;exact q D acc H6 (s5.trans s6) h6 pr
def ee(K:Frag)(P:Program)(w:World):Sp:=fun vs H Q _=>∃(d b:Addr)(o:Obj)(T:CT)(s:LO.Sd)(G:LO.Gr),vs=[.ref d,.ref b]/\cb P w K H d o T/\(∀t,(L2.atT T (aI t)).isSome=LO.brd G t)/\LT.c0 K H b s/\LO.brd G s=true/\∀c H',aq H H'->LT.c0 K H' c (LO.nxt G s)->Q (.ref c) H'
variable(bQ:Df P w K mg base 2 "side_behind" ["known","side"] (ee K P w))
theorem aQ:aB ["known","side","x","y","over","up","to_left","straight","to_right"] ["known","side"] (au (top 9)):=by trivial
include B bM in
theorem gU(T:Tx K mg "side_behind" (top 9) ["known","side"]):Df P w K mg base 2 "side_behind" ["known","side"] (ee K P w):=by
 refine T.df aQ (by rintro _ _ _ _ ⟨d,b,o,T,s,G,rfl,hA,hm,hs,hb,q⟩;rfl) ?_;rintro f _ A _ s H _ Q E hr ⟨d,b,o,T,s,G,rfl,hA,hm,hs,hb,q⟩;have hu:=hr.units;refine bb ?_;intro kX;refine af 9 (ai (aC (pv 8))) ?_;intro kR9 pR9;refine af 8 (ah (br (jl (oz hu (pv 7) (pv 0))) (ai (aC (pv 7))) aF) pR9) ?_;intro kR8 pR8;refine af 7 (ah (br (jl (oz hu (pv 6) (pv 0))) (ai (aC (pv 6))) aF) pR8) ?_;intro kR7 pR7;refine af 6 (ah (ao (i:=8) aQ.nd rfl (by trivial) (aV (aa (aV (aa (pv 2) (aa (pv 3) ag))) (aa (aV (aa (aj bB (pv 2) (pv 5)) (aa (aj bu (pv 3) (pv 4)) ag))) ag)))) pR7) ?_;intro kR6 pR6;refine af 5 (ah (ao (i:=7) aQ.nd rfl (by trivial) (aV (aa (aV (aa (pv 2) (aa (pv 3) ag))) (aa (aV (aa (aj bB (pv 2) (pv 4)) (aa (aj bB (pv 3) (pv 5)) ag))) ag)))) pR6) ?_;intro kR5 pR5;refine af 4 (ah (ao (i:=6) aQ.nd rfl (by trivial) (aV (aa (aV (aa (pv 2) (aa (pv 3) ag))) (aa (aV (aa (aj bu (pv 2) (pv 5)) (aa (aj bB (pv 3) (pv 4)) ag))) ag)))) pR5) ?_;intro kR4 pR4;refine af 3 (ah (ao (i:=5) aQ.nd rfl (by trivial) (aR aS (aL bM hr (aa (pv 1) ag)) ae (fun _ _=>rfl))) pR4) ?_;intro kR3 pR3;refine af 2 (ah (ao (i:=4) aQ.nd rfl (by trivial) (aR aS (aL bM hr (aa (pv 1) ag)) ae (fun _ _=>rfl))) pR3) ?_;intro kR2 pR2;refine af 1 (ah (ao (i:=3) aQ.nd rfl (by trivial) (aR aS (aR aS (pv 1) ae (fun _ _=>rfl)) ae (fun _ _=>rfl))) pR2) ?_;intro kR1 pR1;refine⟨_,(ah (ao (i:=2) aQ.nd rfl (by trivial) (aR aS (aR aS (pv 1) ae (fun _ _=>rfl)) ae (fun _ _=>rfl))) pR1),?_⟩;obtain⟨p,r,h1,h2,h3⟩:=id hs;refine⟨_,rfl,b,_,_,_,rfl,rfl,h1,aA (j:=1) rfl,r,_,_,_,rfl,rfl,h3,aA (j:=0) rfl,?_⟩;refine⟨_,rfl,b,_,_,_,rfl,rfl,h1,aA (j:=1) rfl,r,_,_,_,rfl,rfl,h3,aA (j:=1) rfl,?_⟩;refine⟨_,rfl,b,s,rfl,hs,fun ls H1 s1 hls=>⟨ls,_,_,_,rfl,rfl,hls,aA (j:=0) rfl,?_⟩⟩;refine⟨_,rfl,b,s,rfl,aY s1.tk hs,fun ls' H1' s1' hls'=>?_⟩;replace s1:=s1.trans s1';clear hls s1';refine⟨ls',_,_,_,rfl,rfl,hls',aA (j:=1) rfl,?_⟩;generalize H1'=H1 at s1 hls';refine⟨_,rfl,_,rfl,aE rfl,fun p1 hp1=>?_⟩;have v1:=aq.upd (o:=.tup [.int s.ex,.int s.ey]) hp1;refine⟨_,rfl,_,rfl,_,_,rfl,rfl,_,rfl,_,rfl,_,_,rfl,rfl,aE rfl,fun p2 hp2=>?_⟩;have v2:=aq.upd (o:=.tup [.int (s.ex-s.d.dy),.int (s.ey+s.d.dx)]) hp2;refine⟨aE rfl,fun p3 hp3=>?_⟩;have v3:=aq.upd (o:=.tup [.ref p1,.ref p2]) hp3;have L3:LT.c0 K _ p3 ⟨s.ex,s.ey,s.d.lf⟩:=⟨p1,p2,SqT.of ab,(v2.trans v3).tup (SqT.of ab),v3.tup (sq2 (SqT.of ab) (by cases s.d<;>simp[LO.Sd.ex,LO.Dr.lf,LO.Dr.dx,LO.Dr.dy]<;>omega) (by cases s.d<;>simp[LO.Sd.ey,LO.Dr.lf,LO.Dr.dx,LO.Dr.dy]<;>omega))⟩;have s3:=s1.trans (v1.trans (v2.trans v3));generalize (upd (upd (upd H1 p1 (.tup [.int s.ex,.int s.ey])) p2 (.tup [.int (s.ex-s.d.dy),.int (s.ey+s.d.dx)])) p3 (.tup [.ref p1,.ref p2]))=H3 at L3 s3 ⊢;clear v1 v2 v3;refine⟨_,rfl,_,rfl,aE rfl,fun q1 hq1=>?_⟩;have v1:=aq.upd (o:=.tup [.int s.ex,.int s.ey]) hq1;refine⟨_,rfl,_,rfl,_,_,rfl,rfl,_,rfl,_,rfl,_,_,rfl,rfl,aE rfl,fun q2 hq2=>?_⟩;have v2:=aq.upd (o:=.tup [.int (s.ex+s.d.dx),.int (s.ey+s.d.dy)]) hq2;refine⟨aE rfl,fun q3 hq3=>?_⟩;have v3:=aq.upd (o:=.tup [.ref q1,.ref q2]) hq3;have L4:LT.c0 K _ q3 ⟨s.ex,s.ey,s.d⟩:=⟨q1,q2,SqT.of ab,(v2.trans v3).tup (SqT.of ab),v3.tup (SqT.of ab)⟩;have v13:=v1.trans (v2.trans v3);have s4:=s3.trans v13;have L34:=aY v13.tk L3;generalize (upd (upd (upd H3 q1 (.tup [.int s.ex,.int s.ey])) q2 (.tup [.int (s.ex+s.d.dx),.int (s.ey+s.d.dy)])) q3 (.tup [.ref q1,.ref q2]))=H4 at L4 L34 s4 ⊢;clear v1 v2 v3 v13 L3;refine⟨_,rfl,_,rfl,aE rfl,fun r1 hr1=>?_⟩;have v1:=aq.upd (o:=.tup [.int s.ex,.int s.ey]) hr1;refine⟨_,rfl,_,rfl,_,_,rfl,rfl,_,rfl,_,rfl,_,_,rfl,rfl,aE rfl,fun r2 hr2=>?_⟩;have v2:=aq.upd (o:=.tup [.int (s.ex+s.d.dy),.int (s.ey-s.d.dx)]) hr2;refine⟨aE rfl,fun r3 hr3=>?_⟩;have v3:=aq.upd (o:=.tup [.ref r1,.ref r2]) hr3;have L5:LT.c0 K _ r3 ⟨s.ex,s.ey,s.d.rt⟩:=⟨r1,r2,SqT.of ab,(v2.trans v3).tup (SqT.of ab),v3.tup (sq2 (SqT.of ab) (by cases s.d<;>simp[LO.Sd.ex,LO.Dr.rt,LO.Dr.dx,LO.Dr.dy]<;>omega) (by cases s.d<;>simp[LO.Sd.ey,LO.Dr.rt,LO.Dr.dx,LO.Dr.dy]<;>omega))⟩;have v13:=v1.trans (v2.trans v3);have s5:=s4.trans v13;have L35:=aY v13.tk L34;have L45:=aY v13.tk L4;generalize (upd (upd (upd H4 r1 (.tup [.int s.ex,.int s.ey])) r2 (.tup [.int (s.ex+s.d.dy),.int (s.ey-s.d.dx)])) r3 (.tup [.ref r1,.ref r2]))=H5 at L5 L45 L35 s5 ⊢;clear v1 v2 v3 v13 L34 L4;have hA5:cb P w K H5 d o T:=⟨s5 _ _ hA.1,hA.2.1,hA.2.2.1,fun t ht=>(hA.2.2.2 t ht).tk s5.tk⟩;have en:LO.nxt G s=if LO.brd G ⟨s.ex,s.ey,s.d.lf⟩=true then⟨s.ex,s.ey,s.d.lf⟩else if LO.brd G ⟨s.ex,s.ey,s.d⟩=true then⟨s.ex,s.ey,s.d⟩else⟨s.ex,s.ey,s.d.rt⟩:=rfl
 refine⟨_,rfl,_,rfl,d,o,T,p3,_,rfl,hA5,rfl,bR L35,_,rfl,?_⟩;rw[hm];refine bP (fun z=>?_) (fun z=>?_)
 ·replace z:LO.brd G ⟨s.ex,s.ey,s.d.lf⟩=true:=z;rw[en,uM z]at q;exact⟨_,rfl,q p3 _ s5 L35⟩
 replace z:¬LO.brd G ⟨s.ex,s.ey,s.d.lf⟩=true:=z;refine⟨_,rfl,_,rfl,d,o,T,q3,_,rfl,hA5,rfl,bR L45,_,rfl,?_⟩;rw[hm];refine bP (fun z'=>?_) (fun z'=>?_)
 ·replace z':LO.brd G ⟨s.ex,s.ey,s.d⟩=true:=z';rw[en,uK z,uM z']at q;exact⟨_,rfl,q q3 _ s5 L45⟩
 ·replace z':¬LO.brd G ⟨s.ex,s.ey,s.d⟩=true:=z';rw[en,uK z,uK z']at q;exact⟨_,rfl,q r3 _ s5 L5⟩
def e8(K:Frag):Sp:=fun vs H Q _=>∃(a:Addr)(xs:List V)(W:List LO.Sd),vs=[.ref a]/\H a=some (.lst xs)/\Paired (cX K H) xs W/\W.length<=256/\∀l ys H',H l=none->aq H H'->H' l=some (.lst ys)->Paired (PtE K H') ys (LO.az W)->Q (.ref l) H'
variable(cN:Df P w K mg base 2 "corners_of" ["walk"] (e8 K))
theorem ir:aB ["walk"] ["walk"] (au (top 11)):=by trivial
include B bM in
theorem iB(T:Tx K mg "corners_of" (top 11) ["walk"]):Df P w K mg base 2 "corners_of" ["walk"] (e8 K):=by
 refine T.df ir (by rintro _ _ _ _ ⟨a,xs,W,rfl,hx,pw,l256,q⟩;rfl) ?_;rintro f _ A _ s H _ Q E hr ⟨a,xs,W,rfl,hx,pw,l256,q⟩;have hu:=hr.units;refine⟨_,(ai (aC (cR ["place","side"] [("walk",0)] (fN _ ["walk"]) rfl (by rfl) rfl (by trivial) (by trivial) (a9 (by rfl)) (dR (by rfl)) (mC ⟨rfl,rfl⟩ mN) (mC rfl mN) (p5 (by decide) (by decide) (by decide)) (ov (by rfl) B.enumerate (aa (pv 0) ag)) (fun _ _ _ _=>qj (K:=K) rfl rfl (j3 (aN (i:=0) (show(["place","side","walk"]:List Str).Nodup by trivial) rfl (Or.inl rfl) (Or.inr rfl)) (j3 (aN (i:=1) (show(["place","side","walk"]:List Str).Nodup by trivial) rfl (Or.inl rfl) (Or.inr rfl)) qi))) (fun _ _ _ _=>eD (aM (ql (K:=K) rfl hu) (aL bM hr (aa (pv 1) ag)) (aL bM hr (aa (aR (g8 (K:=K) rfl) (pv 2) (aj bu (pv 0) ae) (fun _ _=>rfl)) ag)) (aG _))) (fun _ _ _ _=>(aR (jA (K:=K) rfl) (pv 1) ae (fun _ _=>rfl)))))),?_⟩;refine⟨_,rfl,a,rfl,⟨_,SqL.of hx⟩,fun D hD=>?_⟩;refine tY (K:=K) (a:=a) (xs:=xs) (fun i acc H6=>aq H H6/\H6 D=some (.lst acc)/\Paired (PtE K H6) acc (LO.cor ((W.getLast?.map (fun s=>s.d)).getD .e) (W.take i))) ⟨aq.upd hD,ab,.nil⟩ (fun i acc H6 _ z=>SqL.of (z.1 _ _ hx)) ?_ ?_
 ·rintro i v acc H6 N hi ⟨s6,h6,pr⟩ hN;obtain⟨v',sd,td,a1,hsd,⟨b,rfl,hs⟩,hl,⟨b',rfl,hs'⟩⟩:=gp pw hi;have u7:=aq.upd (o:=.tup [.int (i:Nat),.ref b]) hN;have k7:SqT K (upd H6 N (.tup [.int (i:Nat),.ref b])) N [.int (i:Nat),.ref b]:=SqT.of ab;have s7:=s6.trans u7;have h7:=u7 _ _ h6;have pr7:=Paired.imp (fun _ _ z=>PtE.tk u7.tk z) pr;generalize (upd H6 N (.tup [.int (i:Nat),.ref b]))=H7 at u7 k7 s7 h7 pr7 ⊢;refine⟨N,_,rfl,k7,rfl,_,_,rfl,_,_,rfl,rfl,?_⟩;refine⟨_,rfl,b,sd,rfl,aY s7.tk hs,fun l1 H8 s8 k8=>?_⟩;refine⟨_,rfl,_,rfl,_,_,rfl,rfl,a,_,_,_,rfl,rfl,SqL.of (s8 _ _ (s7 _ _ hx)),a1,?_⟩;refine⟨b',td,rfl,aY (s7.trans s8).tk hs',fun l2 H9 s9 k9=>?_⟩;refine⟨_,_,sv (s9.tup k8),sv k9,rfl,rfl,Nat.le_of_ble_eq_true rfl,?_⟩;rw[qO];have h9:=s9 _ _ (s8 _ _ h7);have s69:=s7.trans (s8.trans s9);have pr9:=Paired.imp (fun _ _ z=>PtE.tk (s8.trans s9).tk z) pr7;have ec:LO.cor ((W.getLast?.map (fun s=>s.d)).getD .e) (W.take (i+1))=LO.cor ((W.getLast?.map (fun s=>s.d)).getD .e) (W.take i)++(if sd.d≠td.d then[sd.st]else[]):=by
   rw[vo,hsd,vu,kG,rM hl]
  rw[ec];refine⟨_,rfl,?_⟩;refine bP (fun z=>?_) (fun z=>?_)
  ·have ne:sd.d≠td.d:=fun y=>by
    replace z:(!decide (sd.d=td.d))=true:=z;rw[y]at z;simp at z
   rw[uM ne];obtain⟨p,r,e1,e2,_⟩:=aY s69.tk hs;have lacc:acc.length<sizeLine:=by rw[vx pr];have:=gB ((W.getLast?.map (fun s=>s.d)).getD .e) (W.take i);rw[vb]at this;exact aD (by omega)
   have tk2:=TK.lst (o:=.lst (acc++[.ref p])) h9;refine⟨_,rfl,b,_,_,_,rfl,rfl,e1,aA (j:=0) rfl,h9,lacc,fun b5 o5 e5=>?_,ab,?_⟩
   ·rw[ak (fun z=>by rw[z,hD]at e5;cases e5)];exact s69 _ _ e5
   ·exact Paired.app (Paired.imp (fun _ _ z=>z.tk tk2) pr9) (.cons ⟨p,rfl,tk2.sq e2⟩ .nil)
  ·have e:sd.d=td.d:=by
    replace z:¬(!decide (sd.d=td.d))=true:=z;simpa using z
   rw[uK (fun y=>y e),vG];exact⟨s69,h9,pr9⟩
 rintro acc H6 ⟨s6,h6,pr⟩;rw[vx pw,vO]at pr;exact q D acc H6 hD s6 h6 pr
def e7(K:Frag):Sp:=fun vs H Q _=>∃(c:Int)(w h:Nat),vs=[.int c,.int w,.int h]/\(0<w/\w<=8/\0<h/\h<=8)/\∀(v:Nat) H',v<2^(w*h)->aq H H'->Q (.int v) H'
variable(cM:Df P w K mg base 2 "_law_ground" ["_law_cell","_law_wide","_law_high"] (e7 K))
theorem aJ:aB ["_law_cell","_law_wide","_law_high","_law_many","_law_rest","_law_way","_law_found"] ["_law_cell","_law_wide","_law_high"] (au (top 18)):=by trivial
include B cq dj in
theorem iA(T:Tx K mg "_law_ground" (top 18) ["_law_cell","_law_wide","_law_high"]):Df P w K mg base 2 "_law_ground" ["_law_cell","_law_wide","_law_high"] (e7 K):=by
 refine T.df aJ (by rintro _ _ _ _ ⟨c,w,h,rfl,⟨hw,hw8,hh,hh8⟩,q⟩;rfl) ?_;rintro f _ A _ s H _ Q E hr ⟨c,w,h,rfl,⟨hw,hw8,hh,hh8⟩,q⟩;refine bb ?_;intro kX;refine af 9 (ai (aC (aj a8 (pv 6) (aj dN ae (pv 3))))) ?_;intro kR9 pR9;refine af 8 (bz (br (aM dz (pv 5) ae (aG _)) (ai (ao (i:=6) aJ.nd rfl (by trivial) (aR eO (cQ (aa ae (aa (aj dN ae (aj a8 (pv 4) (pv 3))) (aa (aj bu (aj dN ae (pv 3)) ae) ag)))) (aj a8 (aj bL (pv 4) (pv 3)) ae) (fun _ _=>rfl)))) aF) pR9) ?_;intro kR8 pR8;refine af 7 (bz (br (aM dz (pv 5) ae (aG _)) (ai (ao (i:=6) aJ.nd rfl (by trivial) (aL dj hr (aa (pv 4) (aa (pv 1) (aa (pv 2) ag)))))) aF) pR8) ?_;intro kR7 pR7;refine af 6 (bz (br (aM dz (pv 5) ae (aG _)) (ai (ao (i:=6) aJ.nd rfl (by trivial) (aj bu (aj bu (aj dN ae (pv 3)) ae) (aj dN ae (aj a8 (pv 4) (pv 3)))))) aF) pR7) ?_;intro kR6 pR6;refine af 5 (bz (br (aM dz (pv 5) ae (aG _)) (ai (ao (i:=6) aJ.nd rfl (by trivial) (aj oE (pv 6) (aL cq hr (aa (aj bB (aj bL (pv 4) ae) ae) ag))))) aF) pR6) ?_;intro kR5 pR5;refine af 4 (bz (br (aM dz (pv 5) ae (aG _)) (ai (ao (i:=6) aJ.nd rfl (by trivial) (aj tI (pv 6) (aL cq hr (aa (aj bB (aj bL (pv 4) ae) ae) ag))))) aF) pR5) ?_;intro kR4 pR4;refine af 3 (ah (ao (i:=6) aJ.nd rfl (by trivial) (aL cq hr (aa (pv 4) ag))) pR4) ?_;intro kR3 pR3;refine af 2 (ah (ao (i:=5) aJ.nd rfl (by trivial) (aj a8 (pv 0) ae)) pR3) ?_;intro kR2 pR2;refine af 1 (ah (ao (i:=4) aJ.nd rfl (by trivial) (aj bL (pv 0) ae)) pR2) ?_;intro kR1 pR1;refine⟨_,(ah (ao (i:=3) aJ.nd rfl (by trivial) (aj dO (pv 1) (pv 2))) pR1),?_⟩;have hwh:w*h<=64:=Nat.mul_le_mul hw8 hh8;have hwp:0<w*h:=Nat.mul_pos hw hh;have e1:((w:Int)*(h:Int))=((w*h:Nat):Int):=by simp
 have fin:∀(v:Int) H',aq H H'->Q (.int (v % (1*2^(((w*h:Nat):Int)).toNat))) H':=fun v H' s=>by obtain⟨z,ez,hz⟩:=qw v (w*h);rw[ez];exact q z H' hz s
 refine⟨_,rfl,_,rfl,_,_,rfl,rfl,.inl ⟨by omega,by omega⟩,_,rfl,_,_,rfl,rfl,⟨by decide,by decide⟩,_,rfl,_,_,rfl,rfl,(by show(0:Int)<_;decide),?_⟩;simp only[e1];refine⟨_,rfl,_,rfl,fun v=>?_⟩;have s0:=aq.refl H;refine⟨fun σ' H'=>∃v:Int,σ'=[some (.int c),some (.int w),some (.int h),some (.int ((w*h:Nat):Int)),some (.int (c / 8)),some (.int (c % 8)),some (.int v)]/\aq H H',?_,?_⟩
 ·refine fg ?_;intro kD1;refine⟨_,rfl,rfl,_,rfl,?_⟩;refine bP (fun h1=>?_) (fun h1=>?_)
  ·refine⟨_,rfl,_,rfl,_,_,rfl,rfl,⟨by decide,by decide⟩,_,_,rfl,rfl,_,rfl,fun v2=>⟨_,_,rfl,rfl,?_⟩⟩;exact⟨_,rfl,s0⟩
  ·exact⟨_,rfl,s0⟩
 rintro σ' H1 ⟨v,rfl,s1⟩;refine⟨fun σ' H'=>∃v:Int,σ'=[some (.int c),some (.int w),some (.int h),some (.int ((w*h:Nat):Int)),some (.int (c / 8)),some (.int (c % 8)),some (.int v)]/\aq H H',?_,?_⟩
 ·refine fg ?_;intro kD2;refine⟨_,rfl,rfl,_,rfl,?_⟩;refine bP (fun h1=>?_) (fun h1=>?_)
  ·refine⟨_,rfl,_,rfl,_,_,rfl,rfl,⟨by decide,by decide⟩,_,_,rfl,rfl,_,rfl,fun v2=>⟨_,_,rfl,rfl,?_⟩⟩;exact⟨_,rfl,s1⟩
  ·exact⟨_,rfl,s1⟩
 rintro σ' H2 ⟨v,rfl,s2⟩;refine⟨fun σ' H'=>∃v:Int,σ'=[some (.int c),some (.int w),some (.int h),some (.int ((w*h:Nat):Int)),some (.int (c / 8)),some (.int (c % 8)),some (.int v)]/\aq H H',?_,?_⟩
 ·refine fg ?_;intro kD3;refine⟨_,rfl,rfl,_,rfl,?_⟩;refine bP (fun h1=>?_) (fun h1=>?_)
  ·refine⟨_,rfl,_,_,rfl,rfl,⟨by omega,by omega,by decide⟩,_,_,rfl,rfl,_,rfl,_,rfl,_,_,rfl,rfl,(by omega),_,_,rfl,rfl,⟨Int.emod_nonneg _ (by omega),by have:=Int.emod_lt_of_pos (c / 8) (show(0:Int)<((w*h:Nat):Int) by omega);omega,by decide⟩,_,_,rfl,rfl,?_⟩;exact⟨_,rfl,s2⟩
  ·exact⟨_,rfl,s2⟩
 rintro σ' H3 ⟨v,rfl,s3⟩;refine⟨fun σ' H'=>∃v:Int,σ'=[some (.int c),some (.int w),some (.int h),some (.int ((w*h:Nat):Int)),some (.int (c / 8)),some (.int (c % 8)),some (.int v)]/\aq H H',?_,?_⟩
 ·refine fg ?_;intro kD4;refine⟨_,rfl,rfl,_,rfl,?_⟩;refine bP (fun h1=>?_) (fun h1=>?_)
  ·refine⟨_,rfl,_,rfl,_,rfl,_,w,h,rfl,⟨hw,hw8,hh,hh8⟩,fun v4 H' s'=>?_⟩;exact⟨_,rfl,s3.trans s'⟩
  ·exact⟨_,rfl,s3⟩
 rintro σ' H4 ⟨v,rfl,s4⟩;refine⟨fun σ' H'=>∃v:Int,σ'=[some (.int c),some (.int w),some (.int h),some (.int ((w*h:Nat):Int)),some (.int (c / 8)),some (.int (c % 8)),some (.int v)]/\aq H H',?_,?_⟩
 ·refine fg ?_;intro kD5;refine⟨_,rfl,rfl,_,rfl,?_⟩;refine bP (fun h1=>?_) (fun h1=>?_)
  ·refine⟨_,rfl,_,rfl,_,_,rfl,rfl,(by omega),_,_,rfl,rfl,⟨Int.emod_nonneg _ (by omega),by have:=Int.emod_lt_of_pos (c / 8) (show(0:Int)<((w*h:Nat):Int) by omega);omega,by decide⟩,_,rfl,_,_,rfl,rfl,⟨by omega,by omega,by decide⟩,_,_,rfl,rfl,aE rfl,fun l hl=>?_⟩;have y3:∃v5:Int,atI [V.int 0,.int (1*2^(c / 8 % ((w*h:Nat):Int)).toNat),.int (1*2^(((w*h:Nat):Int)).toNat-1)] (c / 8 / ((w*h:Nat):Int) % 3)=some (.int v5):=by
    have y4:c / 8 / ((w*h:Nat):Int) % 3=0\/c / 8 / ((w*h:Nat):Int) % 3=1\/c / 8 / ((w*h:Nat):Int) % 3=2:=(by omega);rcases y4 with y|y|y<;>rw[y]<;>exact⟨_,rfl⟩
   obtain⟨v5,y3⟩:=y3;refine⟨_,rfl,_,rfl,_,_,rfl,rfl,⟨by omega,by omega⟩,_,_,rfl,rfl,(by show(0:Int)<_;decide),l,_,_,_,rfl,rfl,SqL.of ab,y3,?_⟩;exact⟨_,rfl,s4.trans (aq.upd hl)⟩
  ·exact⟨_,rfl,s4⟩
 rintro σ' H5 ⟨v,rfl,s5⟩;exact⟨_,rfl,_,rfl,_,_,rfl,rfl,⟨by omega,by omega,by decide⟩,_,_,rfl,rfl,j0 _,fin _ _ s5⟩
def fA(K:Frag):Sp:=fun vs H Q _=>∃(w h c k:Nat),vs=[.int w,.int h,.int c,.int k]/\(0<w/\w<=8/\h<=8)/\c<2^(w*h)/\c.testBit k=true/\∀p H',aT w h c k p->aq H H'->Q (.int (p:Nat)) H'
variable(dr:Df P w K mg base 2 "_law_piece" ["_law_wide","_law_high","_law_ground_here","_law_cell"] (fA K))
theorem bJ:aB ["_law_wide","_law_high","_law_ground_here","_law_cell","_law_found","_law_todo","_law_here","_law_near_here"] ["_law_wide","_law_high","_law_ground_here","_law_cell"] (au (top 21)):=by trivial
include B dX bo in
theorem jt(T:Tx K mg "_law_piece" (top 21) ["_law_wide","_law_high","_law_ground_here","_law_cell"]):Df P w K mg base 2 "_law_piece" ["_law_wide","_law_high","_law_ground_here","_law_cell"] (fA K):=by
 refine T.df bJ (by rintro _ _ _ _ ⟨w,h,c,k,rfl,⟨hw,hw8,hh8⟩,hc,hk,q⟩;rfl) ?_;rintro f _ A _ s H _ Q E hr ⟨w,h,c,k,rfl,⟨hw,hw8,hh8⟩,hc,hk,q⟩;have hu:=hr.units;refine bb ?_;intro kX;refine af 3 (ai (aC (pv 4))) ?_;intro kR3 pR3;refine aK 2 1 (ai (cG vR rfl (bK (aL dX hr (aa (pv 0) (aa (pv 1) (aa (pv 6) ag))))) (aN (i:=7) bJ.nd rfl (by trivial)) (ai (br ((rL (cn (aL bo hr (aa (pv 2) (aa (pv 7) ag)))) (qe (dM (cn (aL bo hr (aa (pv 4) (aa (pv 7) ag))))))).pt) (ah (ao (i:=4) bJ.nd rfl (by trivial) (aj bB (pv 4) (aj dN ae (pv 7)))) (ai (cA (e9 vB vI vH bg (pv 5) (aa (pv 7) ag))))) aF)))) ?_;intro kS2x1 pS2x1;refine aK 2 0 (ah (ao (i:=6) bJ.nd rfl (by trivial) (ox vB PySem.F.slot_list_pop PySem.F.type_list_pop r8 (pv 5))) pS2x1) ?_;intro kS2x0 pS2x0;refine af 2 (ah (jZ vR (aM (gS hu) (pv 5) (cQ ag) (aG _)) pS2x0) pR3) ?_;intro kR2 pR2;refine af 1 (ah (ao (i:=5) bJ.nd rfl (by trivial) (cQ (aa (pv 3) ag))) pR2) ?_;intro kR1 pR1;refine⟨_,(ah (ao (i:=4) bJ.nd rfl (by trivial) (aj dN ae (pv 3))) pR1),?_⟩;have hwh:w*h<=64:=Nat.mul_le_mul hw8 hh8;have p64:2^(w*h)<=2^64:=vJ (by decide) hwh;have hc64:c<2^64:=uQ hc p64;have hu:=hr.units;have hkn:=bO hc hk;have e0:(1:Int)*2^((k:Int)).toNat=((cS 0 [k]:Nat):Int):=by rw[eu];show((2^k:Nat):Int)=((0||| 2^k:Nat):Int);rw[Nat.zero_or]
 refine⟨_,rfl,_,_,rfl,rfl,⟨by omega,by omega,by decide⟩,?_⟩;refine⟨_,rfl,aE rfl,fun l hl=>?_⟩;have s0:=aq.upd (o:=.lst (NV [k])) hl;refine⟨fun m σ H2=>∃(G T:List Nat)(o6 o7:Option V),σ=[some (.int w),some (.int h),some (.int c),some (.int k),some (.int (cS 0 G:Nat)),some (.ref l),o6,o7]/\m=2*(64-G.length)+T.length/\m<=128/\SX l (upd H l (.lst (NV [k]))) H2/\H2 l=some (.lst (NV T))/\il w h c k G T,⟨127,[k],[k],none,none,(by rw[<-e0];rfl),rfl,by decide,SX.refl _ _,ab,il.start hk⟩,?_⟩;rintro m σ H2 ⟨G,T,o6,o7,rfl,rfl,hm,s2,hl2,D⟩;have hG:=D.len hc64;refine⟨_,rfl,aE rfl,fun e he=>?_⟩;have s3:=aq.upd (o:=.lst []) he;have hl3:=s3 _ _ hl2;refine⟨_,_,IsD.lst (SqL.of hl3) (fV T),IsD.lst (SqL.of ab) (fV []),kq _,rfl,by decide,_,rfl,?_⟩;generalize hH3:(upd H2 e (.lst []))=H3 at s3 hl3 ⊢;rcases List.eq_nil_or_concat T with rfl|⟨T,x,rfl⟩
 ·refine g9 ?_;exact⟨_,rfl,q _ H3 D.done ((SX.same hl s0 s2).trans s3)⟩
 ·have ef:PyData.eqv (.list ((T++[x]).map fun k:Nat=>PyData.int (k:Int))) (.list (([]:List Nat).map fun k:Nat=>PyData.int (k:Int)))=false:=by
   cases T with
   |nil=>rfl
   |cons y t=>rfl
  rw[show T.concat x=T++[x] by simp]at*;rw[ef];refine pe ⟨_,fun _ _ z=>z,?_⟩;rw[uO,List.length_singleton]at hm;have hxc:=(D.rc x (D.sb x (by simp))).in;have hxn:=bO hc hxc;refine⟨_,rfl,.inl ⟨rfl,_,SqL.of hl3⟩,l,_,.int (x:Int),rfl,rfl,hl3,?_,?_⟩
  ·rw[jK,uO];simp
  rw[show(NV (T++[x])).dropLast=NV T by rw[jK];exact List.dropLast_concat];refine⟨_,rfl,_,rfl,_,rfl,w,h,x,rfl,⟨by omega,by omega⟩,fun l2 hn2=>⟨l2,rfl,⟨_,SqL.of ab⟩,?_⟩⟩;rw[oK w h x];have hl4:(upd H3 l (.lst (NV T))) l=some (.lst (NV T)):=ab;have n2l:l2≠l:=fun z=>by rw[z,ab]at hn2;cases hn2
  refine bZ (K:=K) (a:=l2) (xs:=((bG w h x).map fun j:Nat=>(j:Int)).map V.int)
   (fun j σ H4=>∃(M:List Nat)(o7:Option V),σ=[some (.int w),some (.int h),some (.int c),some (.int k),some (.int (cS 0 (G++M):Nat)),some (.ref l),some (.int x),o7]/\SX l (upd (upd H3 l (.lst (NV T))) l2 (.lst (((bG w h x).map fun j:Nat=>(j:Int)).map V.int))) H4/\H4 l=some (.lst (NV (T++M)))/\M.length<=j/\iE w h c k x (G++M) (T++M) ((bG w h x).take j))
   ⟨[],o7,(by rw[vG];rfl),SX.refl _ _,(by rw[ak (Ne.symm n2l),vG];exact hl4),uW _,by rw[vG,vG];exact D.mid⟩
   (fun j σ H4 _ ⟨_,_,_,s4,_⟩=>SqL.of (s4 _ _ n2l ab)) ?_ ?_
  ·rintro j y σ H4 hj ⟨M,o7',rfl,s4,hl5,hMl,DM⟩;refine d7 ?_;intro kD1;obtain⟨z,hz,rfl⟩:=pB hj;have hzm:z∈bG w h x:=vi hz;have hzn:=qt hw hxn hzm;have hjl:j<(bG w h x).length:=(uS.mp hz).1;have h4:=oJ w h x;have et:(bG w h x).take (j+1)=(bG w h x).take j++[z]:=(by rw[vo,hz];rfl);refine⟨_,rfl,_,rfl,c,z,rfl,by omega,_,rfl,?_⟩;refine bP (fun hcz=>?_) (fun hcz=>?_)
   ·refine⟨_,rfl,_,rfl,_,z,rfl,by omega,_,rfl,?_⟩;cases hf:(cS 0 (G++M)).testBit z with
    |true=>refine g9 ⟨M,_,rfl,s4,hl5,by omega,?_⟩;rw[et];exact DM.skip fun _=>fT.mp hf
    |false=>
     have hnG:¬z∈G++M:=fun q'=>by rw[fT.mpr q']at hf;cases hf
     refine pe ?_;refine⟨_,rfl,_,rfl,_,_,rfl,rfl,⟨by omega,by omega,by decide⟩,_,_,rfl,rfl,?_⟩;have ea:((cS 0 (G++M):Nat):Int)+1*2^((z:Int)).toNat=((cS 0 (G++(M++[z])):Nat):Int):=by
      rw[eu,<-vg];have e3:cS 0 (G++M++[z])=cS 0 (G++M)||| 2^z:=by unfold cS;rw[List.foldl_append];rfl
      rw[e3,rS (and_zero fun j hj=>by
       rw[mr,decide_eq_false_iff_not];intro e4;subst e4;rw[hf]at hj
       cases hj)]
      omega
     refine⟨_,rfl,.inl ⟨rfl,_,SqL.of hl5⟩,_,rfl,l,_,_,rfl,rfl,hl5,?_,?_⟩
     ·refine aD ?_;rw[uF,uO];omega
     refine⟨M++[z],some (.int z),?_,s4.trans SX.set,?_,?_,?_⟩
     ·simp only[ea];rfl
     ·rw[ab,<-vg,jK (T++M)];rfl
     ·rw[uO,List.length_singleton];omega
     ·rw[et,<-vg,<-vg];exact DM.push hcz hzm hnG
   ·refine⟨M,_,rfl,s4,hl5,by omega,?_⟩;rw[et];exact DM.skip fun q'=>absurd q' hcz
  ·rintro σ H4 ⟨M,o7',rfl,s4,hl5,hMl,DM⟩;rw[uF,uF,vO]at DM;have DI:=DM.done;have hG2:=DI.len hc64;rw[uO]at hG2;refine⟨_,?_,G++M,T++M,some (.int x),o7',rfl,rfl,?_,?_,hl5,DI⟩
   ·rw[uO,uO,uO,List.length_singleton];omega
   ·rw[uO,uO];omega
   ·exact s2.trans ((SX.of s3).trans (SX.set.trans ((SX.of (aq.upd hn2)).trans s4)))
def fz(K:Frag):Sp:=fun vs H Q _=>∃(a:Addr)(p:LO.Pt)(w h:Nat),vs=[.ref a,.int (w:Nat),.int (h:Nat)]/\SqT K H a [.int p.1,.int p.2]/\(0<=p.1/\p.1<=w)/\(0<=p.2/\p.2<=h)/\Q (.bl true) H
variable(dq:Df P w K mg base 2 "_law_point" ["_law_thing","_law_wide","_law_high"] (fz K))
theorem jg:aB ["_law_thing","_law_wide","_law_high"] ["_law_thing","_law_wide","_law_high"] (au (top 23)):=by trivial
include B cF in
theorem jr(T:Tx K mg "_law_point" (top 23) ["_law_thing","_law_wide","_law_high"]):Df P w K mg base 2 "_law_point" ["_law_thing","_law_wide","_law_high"] (fz K):=by refine T.df jg (by rintro _ _ _ _ ⟨a,p,w,h,rfl,ha,hx,hy,q⟩;rfl) ?_;rintro f _ A _ s H _ Q E hr ⟨a,p,w,h,rfl,ha,hx,hy,q⟩;refine bb ?_;intro kX;refine af 1 (ai (aC (kU (j6 mw mw ae (aR aS (pv 0) ae (fun _ _=>rfl)) (pv 1)) (gR (j6 mw mw ae (aR aS (pv 0) ae (fun _ _=>rfl)) (pv 2)))))) ?_;intro kR1 pR1;refine⟨_,(ah (br ((jX (dM (cn (a7 pJ (by rfl) B.isinstance boot_isinstance (aa (pv 0) (aa (fG (x:="tuple") (v:=.ty "tuple") (by rfl) B.tuple boot_tuple rfl) ag))))) (jX (aM mv (a7 b7 (by rfl) B.len PySem.boot_len (aa (pv 0) ag)) ae (aG _)) (jX (dM (cn (aL cF hr (aa (aR aS (pv 0) ae (fun _ _=>rfl)) ag)))) (kT (dM (cn (aL cF hr (aa (aR aS (pv 0) ae (fun _ _=>rfl)) ag)))))))).pt) (ai (aC dZ)) aF) pR1),?_⟩;refine⟨_,rfl,_,_,a,_,_,_,rfl,rfl,ha,rfl,(fun u z=>z),sh K,_,rfl,g9 ?_⟩;refine⟨_,rfl,a,_,rfl,.inr ha,rfl,_,rfl,g9 ?_⟩;refine⟨_,rfl,a,_,_,_,rfl,rfl,ha,aA (j:=0) rfl,_,"int",rfl,dG.int _,_,rfl,g9 ?_⟩;refine⟨_,rfl,a,_,_,_,rfl,rfl,ha,aA (j:=1) rfl,_,"int",rfl,dG.int _,_,rfl,g9 ?_⟩;refine⟨_,rfl,a,_,_,_,rfl,rfl,ha,aA (j:=0) rfl,_,_,rfl,rfl,_,rfl,?_⟩;rw[ve hx.1];refine pe ⟨_,rfl,_,_,rfl,rfl,_,rfl,?_⟩;rw[ve hx.2];refine pe ⟨_,rfl,a,_,_,_,rfl,rfl,ha,aA (j:=1) rfl,_,_,rfl,rfl,_,rfl,?_⟩;rw[ve hy.1];refine pe ⟨_,rfl,_,_,rfl,rfl,?_⟩;show Q (.bl (decide (p.2<=h))) _;rw[ve hy.2];exact q
def jU(K:Frag)(P:Program)(w:World):Sp:=fun vs H Q _=>∃(a:Addr)(wd hh g:Nat),vs=[.ref a,.int (g:Nat)]/\SqT K H a [.int (wd:Nat),.int (hh:Nat)]/\(0<wd/\wd<=8)/\(0<hh/\hh<=8)/\g<2^(wd*hh)/\∀l vs U H',aq H H'->H' l=some (.lst vs)->Paired (cX K H') vs U->U.Nodup->(∀t,t∈U<->LO.brd (LO.grd wd hh g) t=true)->U.Pairwise (fun s t=>LT.sdN s<=LT.sdN t)->U.length<=256->Q (.ref l) H'
variable(gz:Df P w K mg base 3 "sides" ["floor","cells"] (jU K P w))
theorem fC:aB ["floor","cells","known","cell","side"] ["floor","cells"] (au (top 7)):=by trivial
include B fL cC in
theorem oH(T:Tx K mg "sides" (top 7) ["floor","cells"]):Df P w K mg base 3 "sides" ["floor","cells"] (jU K P w):=by
 refine T.df fC (by rintro _ _ _ _ ⟨a,wd,hh,g,rfl,hT,⟨hw,hw8⟩,⟨hh0,hh8⟩,hg,q⟩;rfl) ?_;rintro f _ A _ s H _ Q E hr ⟨a,wd,hh,g,rfl,hT,⟨hw,hw8⟩,⟨hh0,hh8⟩,hg,q⟩;have hu:=hr.units;refine bb ?_;intro kX;refine af 2 (ai (aC (a7 (LT.lM hu) (by rfl) B.sorted (by trivial) (aa (cR ["side"] [("known",2)] (fN _ ["known"]) rfl (by rfl) rfl (by trivial) (by trivial) (a9 (by rfl)) (dR (by rfl)) (mC ⟨rfl,rfl⟩ mN) (mC rfl mN) (dc (by decide)) (rN (pv 2)) (fun _ _ _ _=>aN (i:=0) (show(["side","known"]:List Str).Nodup by trivial) rfl (Or.inl rfl) (Or.inr rfl)) (fun _ _ _ _=>eD (jl (kW (P:=P) (w:=w) (K:=K) rfl rfl rfl hu (aV (aa (aR (jA (K:=K) rfl) (pv 0) ae (fun _ _=>rfl)) (aa (aR (jA (K:=K) rfl) (pv 0) ae (fun _ _=>rfl)) ag))) (pv 1)))) (fun _ _ _ _=>(pv 0))) ag)))) ?_;intro kR2 pR2;refine af 1 (ah (cG vR rfl (bK (aL fL hr (aa (pv 1) ag))) (aN (i:=3) fC.nd rfl (by trivial)) (ai (cG vR rfl (bK (aL cC hr (aa (pv 0) (aa (pv 3) ag)))) (aN (i:=4) fC.nd rfl (by trivial)) (ai (mq hu (pv 2) (pv 4) dZ rfl))))) pR2) ?_;intro kR1 pR1;refine⟨_,(ah (ao (i:=2) fC.nd rfl (by trivial) j5) pR1),?_⟩;intro d hd nm;have u1:=aq.upd (o:=b8 d cW) hd;have c1:cb P w K (upd H d (b8 d cW)) d cW []:=⟨ab,ic P w,nm,fun t ht=>nomatch ht⟩;generalize (upd H d (b8 d cW))=H1 at u1 c1 ⊢;have g64:g<2^64:=uQ hg (vJ (by decide) (wF (Nat.mul_le_mul hw8 hh8) (by decide)));have ll:(b6 g).length<=64:=by have:=(List.filter_sublist (p:=g.testBit) (l:=List.range 64)).length_le;rwa[wb]at this
 refine⟨_,rfl,g,rfl,g64,fun lc hlc=>?_⟩;have u2:=aq.upd (o:=.lst ((b6 g).map fun k:Nat=>V.int (k:Int))) hlc;have k2:(upd H1 lc (.lst ((b6 g).map fun k:Nat=>V.int (k:Int)))) lc=some (.lst ((b6 g).map fun k:Nat=>V.int (k:Int))):=ab;have c2:=bT u2 c1;replace u2:=u1.trans u2;generalize (upd H1 lc (.lst ((b6 g).map fun k:Nat=>V.int (k:Int))))=H2 at u2 k2 c2 ⊢;obtain⟨X,eX⟩:∃X:Nat->List LO.Sd,X=fun k=>LO.gu ((k % wd:Nat):Int) ((k / wd:Nat):Int):=⟨_,rfl⟩;refine⟨lc,rfl,⟨_,SqL.of k2⟩,bZ (K:=K) (a:=lc) (xs:=(b6 g).map fun k:Nat=>V.int (k:Int)) (fun i σ H3=>∃(o3 o4:Option V)(o:Obj)(T:CT),σ=[some (.ref a),some (.int (g:Nat)),some (.ref d),o3,o4]/\aq H H3/\H3 lc=some (.lst ((b6 g).map fun k:Nat=>V.int (k:Int)))/\cb P w K H3 d o T/\Kn T (fun s=>∃k∈(b6 g).take i,s∈X k)/\T.length<=4*i) ⟨none,none,_,_,rfl,u2,k2,c2,lD.congr fun s=>by simp,vN _⟩ (fun i σ H3 _ hPz=>hPz.elim fun _ hPz=>hPz.elim fun _ hPz=>hPz.elim fun _ hPz=>hPz.elim fun _ hPz=>(fun z=>SqL.of z) (hPz.2.2.1)) ?_ ?_⟩
 ·rintro i v σ H3 hi ⟨o3,o4,o,T,rfl,s3,k3,c3,kn,lT⟩;refine d7 ?_;intro kD1;rw[vz]at hi;obtain⟨k,hk,rfl⟩:=wq.mp hi;have i64:i<64:=by
   have:=(uS.mp hk).1;omega
  refine⟨_,rfl,_,rfl,a,wd,hh,k,rfl,s3.tup hT,⟨hw,hw8⟩,fun lr vr H4 s4 hr pr=>?_⟩;have eR:LO.gu ((k % wd:Nat):Int) ((k / wd:Nat):Int)=X k:=by rw[eX]
  rw[eR]at pr;have l4:(X k).length=4:=by rw[eX];rfl
  refine⟨lr,rfl,⟨_,SqL.of hr⟩,bZ (K:=K) (a:=lr) (xs:=vr) (fun j σ H5=>∃(o4:Option V)(o:Obj)(T:CT),σ=[some (.ref a),some (.int (g:Nat)),some (.ref d),some (.int (k:Nat)),o4]/\aq H H5/\H5 lc=some (.lst ((b6 g).map fun k:Nat=>V.int (k:Int)))/\H5 lr=some (.lst vr)/\Paired (cX K H5) vr (X k)/\cb P w K H5 d o T/\Kn T (fun s=>(∃k∈(b6 g).take i,s∈X k)\/s∈(X k).take j)/\T.length<=4*i+j) ⟨o4,o,T,rfl,s3.trans s4,s4 _ _ k3,hr,pr,bT s4 c3,kn.congr fun s=>by simp,lT⟩ (fun j σ H5 _ hPz=>hPz.elim fun _ hPz=>hPz.elim fun _ hPz=>hPz.elim fun _ hPz=>(fun z=>SqL.of z) (hPz.2.2.2.1)) ?_ ?_⟩
  ·rintro j v σ H5 hj ⟨o4',o5,T5,rfl,s5,k5,r5,pr5,c5,kn5,lT5⟩;refine d7 ?_;intro kD2;obtain⟨sd,hsd,b,rfl,hb⟩:=aZ pr5 hj;have j4:j<4:=by
    have:=(uS.mp hsd).1;omega
   refine⟨_,rfl,_,rfl,d,o5,T5,b,_,rfl,c5,rfl,bR hb,by omega,fun o' ho'=>?_⟩;have tk:=TK.obj (o:=b8 d o') c5.1;refine⟨_,o',_,rfl,fun b5 o5 e5=>?_,?_,?_,Paired.imp (fun _ _ z=>cX.tk tk z) pr5,iZ c5 (bR hb) ho',(lC kn5 sd b _).congr fun s=>?_,?_⟩
   ·rw[ak (fun z=>by rw[z,hd]at e5;cases e5)];exact s5 _ _ e5
   ·rw[ak (fun z=>by rw[z,c5.1]at k5;cases k5)];exact k5
   ·rw[ak (fun z=>by rw[z,c5.1]at r5;cases r5)];exact r5
   ·rw[vo,hsd,vu,uR,uV,or_assoc]
   ·have:=jY T5 (aI sd) b (.bl true);omega
  ·rintro σ H5 ⟨o4',o5,T5,rfl,s5,k5,r5,pr5,c5,kn5,lT5⟩;rw[vx pr5,l4]at lT5;rw[vx pr5,vO]at kn5;refine⟨_,_,o5,T5,rfl,s5,k5,c5,kn5.congr fun s=>?_,by omega⟩;rw[vo,hk,vu];simp only[uR,uV];exact⟨fun z=>z.elim (fun⟨k',a,b⟩=>⟨k',.inl a,b⟩) fun z=>⟨k,.inr rfl,z⟩,fun⟨k',a,b⟩=>a.elim (fun a=>.inl ⟨k',a,b⟩) fun a=>.inr (a▸b)⟩
 ·rintro σ H3 ⟨o3,o4,o,T,rfl,s3,k3,c3,kn,lT⟩;rw[uF,vO]at kn;rw[uF]at lT;have knG:Kn T (fun s=>LO.at4 (LO.grd wd hh g) s.x s.y s.d=true):=kn.congr fun s=>by
   rw[<-LO.iT hw,eX];refine⟨fun hPz=>?_,fun⟨k,hk,hb,hm⟩=>⟨k,(gY g64).mpr hb,hm⟩⟩;obtain⟨k,hk,hm⟩:=hPz;have hb:=(gY g64).mp hk;exact⟨k,Nat.lt_of_not_le (fun z=>by rw[Nat.testBit_lt_two_pow (uQ hg (vJ (by decide) z))]at hb;exact Bool.noConfusion hb),hb,hm⟩
  clear kn;obtain⟨L,pl,nd,hL⟩:=knG.list;have lL:T.length=L.length:=vx pl;refine⟨_,rfl,d,o,T,rfl,c3.1,c3.2.1,c3.2.2.1,fun D hD=>?_⟩;refine tZ (d:=d) (o:=o) (T:=T) (fun i acc H4=>aq H3 H4/\H4 D=some (.lst acc)/\Paired (cX K H4) acc ((L.take i).filter (LO.brd (LO.grd wd hh g)))) ⟨aq.upd hD,ab,.nil⟩ (fun i acc H4 _ ⟨e,_⟩=>e _ _ c3.1) ?_ ?_
  ·rintro i t acc H4 hi ⟨s4,h4,pr⟩;refine gq ?_;intro kq3 kr3;obtain⟨sd,hsd,et⟩:=aZ pl hi;have hs3:LT.c0 K H3 t.2.1 sd:=by
    have:=c3.2.2.2 t (vi hi);rw[et]at this;exact qX this
   obtain⟨p,r,h1,h2,h3⟩:=aY s4.tk hs3;refine⟨_,rfl,t.2.1,_,_,_,rfl,rfl,h1,aA (j:=1) rfl,_,rfl,t.2.1,_,_,_,rfl,rfl,h1,aA (j:=0) rfl,aE rfl,fun b hb=>?_⟩;have u5:=aq.upd (o:=.tup [.ref r,.ref p]) hb;have r5:LT.c0 K (upd H4 b (.tup [.ref r,.ref p])) b sd.rev:=⟨r,p,SqT.of ab,sq2 (u5.tup h3) (LO.er sd).1.symm (LO.er sd).2.1.symm,sq2 (u5.tup h2) (LO.er sd).2.2.1.symm (LO.er sd).2.2.2.symm⟩;have s5:=s4.trans u5;have h5:=u5 _ _ h4;have pr5:=Paired.imp (fun _ _ z=>cX.tk u5.tk z) pr;generalize (upd H4 b (.tup [.ref r,.ref p]))=H5 at u5 r5 s5 h5 pr5 ⊢;refine⟨_,rfl,d,o,T,b,_,rfl,bT s5 c3,rfl,bR r5,_,rfl,?_⟩;have el:(L.take (i+1)).filter (LO.brd (LO.grd wd hh g))=(L.take i).filter (LO.brd (LO.grd wd hh g))++[sd].filter (LO.brd (LO.grd wd hh g)):=by rw[vo,hsd,vu,wU]
   have hat:LO.at4 (LO.grd wd hh g) sd.x sd.y sd.d=true:=(hL sd).mp (vi hsd);have eb:LO.brd (LO.grd wd hh g) sd= !(L2.atT T (aI sd.rev)).isSome:=by rw[LO.jH,hat,Bool.true_and];congr 1;exact wo.mpr (knG.at sd.rev).symm
   refine bP (fun z=>?_) (fun z=>?_)
   ·replace z:(!(L2.atT T (aI sd.rev)).isSome)=true:=z;rw[<-eb]at z;have lacc:acc.length<sizeLine:=by
     rw[vx pr];have:=(List.filter_sublist (p:=LO.brd (LO.grd wd hh g)) (l:=L.take i)).length_le;rw[vb]at this;exact aD (by omega)
    have tk2:=TK.lst (o:=.lst (acc++[.ref t.2.1])) h5;refine⟨_,rfl,h5,lacc,fun b5 o5 e5=>?_,ab,?_⟩
    ·rw[ak (fun z=>by rw[z,hD]at e5;cases e5)];exact s5 _ _ e5
    ·rw[el,List.filter_cons_of_pos z,List.filter_nil];exact Paired.app (Paired.imp (fun _ _ z=>cX.tk tk2 z) pr5) (.cons ⟨_,rfl,aY tk2 (aY s5.tk hs3)⟩ .nil)
   ·replace z:¬(!(L2.atT T (aI sd.rev)).isSome)=true:=z;rw[<-eb]at z;refine⟨s5,h5,?_⟩;rw[el,List.filter_cons_of_neg z,List.filter_nil,vG];exact pr5
  ·rintro acc H4 ⟨s4,h4,pr⟩;rw[lL,vO]at pr;obtain⟨zs,rfl,e2,hz⟩:=mh pr;have lz:zs.length<=256:=by
    have:=(List.filter_sublist (p:=LO.brd (LO.grd wd hh g)) (l:=L)).length_le;rw[<-e2,uF]at this;omega
   have iz:∀z∈zs,LO.brd (LO.grd wd hh g) z.2=true:=fun z hz=>by have:z.2∈zs.map (·.2):=wK hz;rw[e2]at this;exact(List.mem_filter.mp this).2
   refine⟨D,zs,rfl,SqL.of h4,hz,fun z hz'=>LO.lO hw8 hh8 (LO.aP.mp (iz z hz')).1,by omega,fun l ys hl pm so=>?_⟩;have u5:=aq.upd (o:=.lst (ys.map fun z=>V.ref z.1)) hl;have pm2:(ys.map (·.2)).Perm (L.filter (LO.brd (LO.grd wd hh g))):=e2▸pm.map _;refine q l _ (ys.map (·.2)) _ (s3.trans (s4.trans u5)) ab (lV fun z hz'=>aY u5.tk (hz z (pm.mem_iff.mp hz'))) (pm2.nodup_iff.mpr (nd.filter _)) (fun t=>?_) ?_ ?_
   ·rw[pm2.mem_iff,List.mem_filter,hL];exact⟨fun z=>z.2,fun z=>⟨(LO.aP.mp z).1,z⟩⟩
   ·rw[List.pairwise_map]at so ⊢;exact so
   ·rw[uF,pm.length_eq];exact lz
def eY(K:Frag)(P:Program)(w:World):Sp:=fun vs H Q _=>∃(d b:Addr)(o:Obj)(T:CT)(s:LO.Sd)(G:LO.Gr),vs=[.ref d,.ref b]/\cb P w K H d o T/\(∀t,(L2.atT T (aI t)).isSome=LO.brd G t)/\LT.c0 K H b s/\LO.brd G s=true/\(∀U:List LO.Sd,U.Nodup->(∀t∈U,LO.brd G t=true)->U.length<=256)/\∀l vs n H',H l=none->aq H H'->H' l=some (.lst vs)->Paired (cX K H') vs (LO.wlk G s n)->0<n->LO.itr G s n=s->(LO.wlk G s n).Nodup->Q (.ref l) H'
variable(cK:Df P w K mg base 3 "round_from" ["known","first"] (eY K P w))
theorem cu:aB ["known","first","found","side"] ["known","first"] (au (top 10)):=by trivial
include B bQ in
theorem ix(T:Tx K mg "round_from" (top 10) ["known","first"]):Df P w K mg base 3 "round_from" ["known","first"] (eY K P w):=by
 refine T.df cu (by rintro _ _ _ _ ⟨d,b,o,T,s,G,rfl,hA,hm,hs,hb,fin,q⟩;rfl) ?_;rintro f _ A _ s H _ Q E hr ⟨d,b,o,T,s,G,rfl,hA,hm,hs,hb,fin,q⟩;have hu:=hr.units;refine bb ?_;intro kX;refine af 3 (ai (aC (pv 2))) ?_;intro kR3 pR3;refine aK 2 1 (ai (ao (i:=3) cu.nd rfl (by trivial) (aL bQ hr (aa (pv 0) (aa (pv 3) ag))))) ?_;intro kS2x1 pS2x1;refine aK 2 0 (ah (cA (e9 vB vI vH bg (pv 2) (aa (pv 3) ag))) pS2x1) ?_;intro kS2x0 pS2x0;refine af 2 (ah (jZ vR (aM (gS hu) (pv 3) (pv 1) (aG _)) pS2x0) pR3) ?_;intro kR2 pR2;refine af 1 (ah (ao (i:=3) cu.nd rfl (by trivial) (aL bQ hr (aa (pv 0) (aa (pv 1) ag)))) pR2) ?_;intro kR1 pR1;refine⟨_,(ah (ao (i:=2) cu.nd rfl (by trivial) (cQ (aa (pv 1) ag))) pR1),?_⟩;refine⟨_,rfl,aE rfl,fun l hl=>?_⟩;have u1:=aq.upd (o:=.lst [.ref b]) hl;have k1:(upd H l (.lst [.ref b])) l=some (.lst [.ref b]):=ab;generalize (upd H l (.lst [.ref b]))=H1 at u1 k1 ⊢;have AT:∀{H'},aq H H'->cb P w K H' d o T:=fun z=>⟨z _ _ hA.1,hA.2.1,hA.2.2.1,fun t ht=>(hA.2.2.2 t ht).tk z.tk⟩;refine⟨_,rfl,_,rfl,d,b,o,T,s,G,rfl,AT u1,hm,aY u1.tk hs,hb,fun c H2 s2 hc=>?_⟩;have len:∀n,(LO.wlk G s n).Nodup->n<=256:=fun n nd=>by
  have:=fin _ nd fun t ht=>by obtain⟨j,_,rfl⟩:=u0.mp ht;exact LO.bY hb j
  rwa[LO.wlk,uF,wb]at this
 refine⟨fun m σ H3=>∃n c vs,m+n=300/\0<n/\σ=[some (.ref d),some (.ref b),some (.ref l),some (.ref c)]/\aq H H3/\LT.c0 K H3 c (LO.itr G s n)/\H3 l=some (.lst vs)/\Paired (cX K H3) vs (LO.wlk G s n)/\(LO.wlk G s n).Nodup,⟨299,1,c,_,rfl,by decide,rfl,u1.trans s2,hc,s2 _ _ k1,.cons ⟨b,rfl,aY (u1.trans s2).tk hs⟩ .nil,wC _ _⟩,?_⟩;rintro m σ H3 ⟨n,c3,vs,hm3,n0,rfl,s3,hc3,hl3,pr,nd⟩;have hs3:=aY s3.tk hs;refine⟨_,rfl,_,rfl,_,_,(bR hc3).isD,(bR hs3).isD,rfl,rfl,Nat.le_of_ble_eq_true rfl,_,rfl,?_⟩;rw[mP];have n256:=len n nd;refine bP (fun z=>?_) (fun z=>?_)
 ·have ne:LO.itr G s n≠s:=fun y=>by
   replace z:(!decide (aI (LO.itr G s n)=aI s))=true:=z;rw[y]at z;simp at z
  have nd2:(LO.wlk G s (n+1)).Nodup:=by rw[LO.gE];refine wx.mpr ⟨nd,wC _ _,fun x hx y hy z=>?_⟩;rw[uV.mp hy]at z;exact LO.pZ hb nd ne (z▸hx)
  have n256':=len _ nd2;refine⟨fun σ' H'=>∃m',m'<m/\(∃n c vs,m'+n=300/\0<n/\σ'=[some (.ref d),some (.ref b),some (.ref l),some (.ref c)]/\aq H H'/\LT.c0 K H' c (LO.itr G s n)/\H' l=some (.lst vs)/\Paired (cX K H') vs (LO.wlk G s n)/\(LO.wlk G s n).Nodup),fun _ _ z=>z,?_⟩;have lv:vs.length<sizeLine:=by rw[vx pr,LO.wlk,uF,wb];exact aD (by omega)
  refine⟨_,rfl,.inl ⟨rfl,_,SqL.of hl3⟩,_,rfl,l,_,_,rfl,rfl,hl3,lv,?_⟩;have tk4:=TK.lst (o:=.lst (vs++[.ref c3])) hl3;have s4:aq H (upd H3 l (.lst (vs++[.ref c3]))):=fun b5 o5 e5=>by rw[ak (fun z=>by rw[z,hl]at e5;cases e5)];exact s3 _ _ e5
  refine⟨_,rfl,_,rfl,d,c3,o,T,_,G,rfl,AT s4,hm,aY tk4 hc3,LO.bY hb n,fun c5 H5 s5 hc5=>?_⟩;refine⟨m-1,by omega,n+1,c5,_,by omega,by omega,rfl,s4.trans s5,hc5,s5 _ _ ab,?_,nd2⟩;rw[LO.gE];exact Paired.app (Paired.imp (fun _ _ z=>(z.tk tk4).tk s5.tk) pr) (.cons ⟨c3,rfl,aY s5.tk (aY tk4 hc3)⟩ .nil)
 ·have e:LO.itr G s n=s:=by
   replace z:¬(!decide (aI (LO.itr G s n)=aI s))=true:=z;simp at z;exact eM z
  exact⟨_,rfl,q l vs n H3 hl s3 hl3 pr n0 e nd⟩
def eZ(K:Frag):Sp:=fun vs H Q _=>∃(w h c:Nat),vs=[.int w,.int h,.int c]/\(0<w/\w<=8/\h<=8)/\c<2^(w*h)/\∀l ps H',H l=none->aq H H'->H' l=some (.lst (NV ps))->dI w h c ps->Q (.ref l) H'
variable(cL:Df P w K mg base 3 "_law_pieces" ["_law_wide","_law_high","_law_ground_here"] (eZ K))
theorem bx:aB ["_law_wide","_law_high","_law_ground_here","_law_found","_law_rest","_law_k","_law_one"] ["_law_wide","_law_high","_law_ground_here"] (au (top 22)):=by trivial
include B bo dr in
theorem iy(T:Tx K mg "_law_pieces" (top 22) ["_law_wide","_law_high","_law_ground_here"]):Df P w K mg base 3 "_law_pieces" ["_law_wide","_law_high","_law_ground_here"] (eZ K):=by
 refine T.df bx (by rintro _ _ _ _ ⟨w,h,c,rfl,⟨hw,hw8,hh8⟩,hc,q⟩;rfl) ?_;rintro f _ A _ s H _ Q E hr ⟨w,h,c,rfl,⟨hw,hw8,hh8⟩,hc,q⟩;refine bb ?_;intro kX;refine af 3 (ai (aC (pv 3))) ?_;intro kR3 pR3;refine af 2 (ah (cG vR rfl (cP (by rfl) B.range (aa (aj dO (pv 0) (pv 1)) ag)) (aN (i:=5) bx.nd rfl (by trivial)) (ai (br (cn (aL bo hr (aa (pv 4) (aa (pv 5) ag)))) (ah (ao (i:=6) bx.nd rfl (by trivial) (aL dr hr (aa (pv 0) (aa (pv 1) (aa (pv 2) (aa (pv 5) ag)))))) (ah (cA (e9 vB vI vH bg (pv 3) (aa (pv 6) ag))) (ai (ao (i:=4) bx.nd rfl (by trivial) (aj bu (pv 4) (pv 6)))))) aF))) pR3) ?_;intro kR2 pR2;refine af 1 (ah (ao (i:=4) bx.nd rfl (by trivial) (pv 2)) pR2) ?_;intro kR1 pR1;refine⟨_,(ah (ao (i:=3) bx.nd rfl (by trivial) (cQ ag)) pR1),?_⟩;have hwh:w*h<=64:=Nat.mul_le_mul hw8 hh8;have p64:2^(w*h)<=2^64:=vJ (by decide) hwh;have hc64:c<2^64:=uQ hc p64;have e1:((w:Int)*(h:Int))=((w*h:Nat):Int):=by simp
 have e2:(((w:Int)*(h:Int))).toNat=w*h:=by rw[e1,vE]
 refine⟨vN _,fun l hl=>?_⟩;have s0:=aq.upd (o:=.lst []) hl;refine⟨_,rfl,_,rfl,_,rfl,_,_,rfl,rfl,.inl ⟨by omega,by omega⟩,_,rfl,by omega,by omega,?_⟩;rw[e2];refine fX (lo:=0) (n:=w*h)
  (fun i σ H2=>∃(r:Nat)(xs:List Nat)(o5 o6:Option V),σ=[some (.int w),some (.int h),some (.int c),some (.ref l),some (.int r),o5,o6]/\SX l (upd H l (.lst [])) H2/\H2 l=some (.lst (NV xs))/\xs.length<=i/\r<2^(w*h)/\dJ w h c r/\Sub r c/\(∀j,j<i->r.testBit j=false)/\∀ps,dI w h r ps->dI w h c (xs++ps))
  ⟨c,[],none,none,rfl,SX.refl _ _,ab,uW _,hc,fun _ _ _ _ e=>e,fun _ e=>e,fun j hj=>by omega,fun _ z=>z⟩ ?_ ?_
 ·rintro i σ H2 hi ⟨r,xs,o5,o6,rfl,s2,hl2,hxl,hr',hcl,hs,hlow,hx⟩;rw[show(0:Int)+(i:Int)=((i:Nat):Int) by omega];refine d7 ?_;intro kD1;refine⟨_,rfl,_,rfl,r,i,rfl,by omega,_,rfl,?_⟩;refine bP (fun hb=>?_) (fun hb=>?_)
  ·have hr64:r<2^64:=uQ hr' p64;have hr0:r≠0:=fun z=>by rw[z]at hb;simp at hb
   have eL:dC r=i:=jw (by omega) hb hlow;refine⟨_,rfl,_,rfl,_,rfl,_,rfl,w,h,c,i,rfl,⟨hw,hw8,hh8⟩,hc,hs i hb,fun p H3 hp s3=>?_⟩;have hpr:=hp.to_closed hcl hs hb;have hpr':aT w h r (dC r) p:=(by rw[eL];exact hpr);obtain⟨q1,q2,q3⟩:=h8 hr64 hr0 hpr';have hl3:=s3 _ _ hl2;refine⟨_,rfl,.inl ⟨rfl,_,SqL.of hl3⟩,_,rfl,l,_,_,rfl,rfl,hl3,?_,?_⟩
   ·exact aD (by rw[uF];omega)
   refine⟨_,rfl,_,rfl,_,_,rfl,rfl,?_⟩;have es:(r:Int)-(p:Int)=((dif r p:Nat):Int):=by have:=qP (r:=r) (p:=p) fun j hj=>hpr.sub hj;omega
   refine⟨dif r p,xs++[p],_,_,(by simp only[es];rfl),s2.trans ((SX.of s3).trans SX.set),(by rw[ab,jK];rfl),(by rw[uO,List.length_singleton];omega),lI hr',ie hw hc hcl hs hp,me hs,fun j hj=>?_,fun ps z=>?_⟩
   ·rw[dU];rcases wa j i with z|z
    ·rw[hlow j z];rfl
    ·have:j=i:=(by omega);subst this;rw[eL]at q3;rw[q3];simp
   ·rw[vg];exact hx _ (.cons hr0 hpr' z)
  ·refine⟨r,xs,some (.int i),o6,rfl,s2,hl2,by omega,hr',hcl,hs,fun j hj=>?_,hx⟩;rcases wa j i with z|z
   ·exact hlow j z
   ·have:j=i:=(by omega);subst this;simpa using hb
 ·rintro σ H2 ⟨r,xs,o5,o6,rfl,s2,hl2,hxl,hr',hcl,hs,hlow,hx⟩;have hr0:r=0:=qY fun j=>by
   constructor
   ·intro z;rw[hlow j (bO hr' z)]at z;cases z
   ·intro z;simp at z
  subst hr0;have:=hx [] .nil;rw[vG]at this;exact⟨_,rfl,q l xs H2 hl (SX.same hl s0 s2) hl2 this⟩
def de(K:Frag):Sp:=fun vs H Q _=>∃(l:Addr)(xs:List V)(Rs:List (List LO.Pt))(w h:Nat),vs=[.ref l,.int (w:Nat),.int (h:Nat)]/\H l=some (.lst xs)/\Paired (fk K H) xs Rs/\(∀R∈Rs,∀p∈R,(0<=p.1/\p.1<=w)/\(0<=p.2/\p.2<=h))/\Q (.bl true) H
variable(bh:Df P w K mg base 3 "_law_rings_told" ["_law_told","_law_wide","_law_high"] (de K))
theorem bX:aB ["_law_told","_law_wide","_law_high","_law_ring","_law_point_here"] ["_law_told","_law_wide","_law_high"] (au (top 25)):=by trivial
include B dq in
theorem fI(T:Tx K mg "_law_rings_told" (top 25) ["_law_told","_law_wide","_law_high"]):Df P w K mg base 3 "_law_rings_told" ["_law_told","_law_wide","_law_high"] (de K):=by
 refine T.df bX (by rintro _ _ _ _ ⟨l,xs,Rs,w,h,rfl,hl,px,pb,q⟩;rfl) ?_;rintro f _ A _ s H _ Q E hr ⟨l,xs,Rs,w,h,rfl,hl,px,pb,q⟩;refine bb ?_;intro kX;refine af 2 (ai (aC dZ)) ?_;intro kR2 pR2;refine aK 1 1 (ai (cG vR rfl (bK (pv 3)) (aN (i:=4) bX.nd rfl (by trivial)) (ai (br (dM (cn (aL dq hr (aa (pv 4) (aa (pv 1) (aa (pv 2) ag)))))) (ai (aC dZ)) aF)))) ?_;intro kS1x1 pS1x1;refine aK 1 0 (ah (br (dM (cn (a7 fO (by rfl) B.isinstance boot_isinstance (aa (pv 3) (aa (fG (x:="list") (v:=.ty "list") (by rfl) B.list boot_list rfl) ag))))) (ai (aC dZ)) aF) pS1x1) ?_;intro kS1x0 pS1x0;refine af 1 (ah (cG vR rfl (bK (pv 0)) (aN (i:=3) bX.nd rfl (by trivial)) pS1x0) pR2) ?_;intro kR1 pR1;refine⟨_,(ah (br (dM (cn (a7 fO (by rfl) B.isinstance boot_isinstance (aa (pv 0) (aa (fG (x:="list") (v:=.ty "list") (by rfl) B.list boot_list rfl) ag))))) (ai (aC dZ)) aF) pR1),?_⟩;refine⟨_,rfl,_,_,_,_,rfl,dG.lst hl,oW K,_,rfl,g9 ?_⟩;refine⟨_,rfl,l,rfl,⟨_,SqL.of hl⟩,bZ (K:=K) (a:=l) (xs:=xs) (fun i σ H2=>∃(o3 o4:Option V),σ=[some (.ref l),some (.int (w:Nat)),some (.int (h:Nat)),o3,o4]/\H2=H) ⟨none,none,rfl,rfl⟩ (fun i σ H2 _ hPz=>hPz.elim fun _ hPz=>hPz.elim fun _ hPz=>(fun e=>by rw[e];exact SqL.of hl) (hPz.2)) ?_ ?_⟩
 ·rintro i v σ H2 hi ⟨o3,o4,rfl,rfl⟩;refine d7 ?_;intro kD1;obtain⟨R,hR,b,rfl,ys,hb,py⟩:=aZ px hi;have pR:=pb R (vi hR);refine⟨_,rfl,_,_,_,_,rfl,dG.lst hb,oW K,_,rfl,g9 ?_⟩;refine⟨_,rfl,b,rfl,⟨_,SqL.of hb⟩,bZ (K:=K) (a:=b) (xs:=ys) (fun i σ H3=>∃(o4:Option V),σ=[some (.ref l),some (.int (w:Nat)),some (.int (h:Nat)),some (.ref b),o4]/\H3=H2) ⟨o4,rfl,rfl⟩ (fun i σ H3 _ hPz=>hPz.elim fun _ hPz=>(fun e=>by rw[e];exact SqL.of hb) (hPz.2)) ?_ ?_⟩
  ·rintro j v σ H3 hj ⟨o4,rfl,rfl⟩;refine d7 ?_;intro kD2;obtain⟨p,hp,t,rfl,ht⟩:=aZ py hj;obtain⟨i1,i2⟩:=pR p (vi hp);refine⟨_,rfl,_,rfl,_,rfl,t,p,w,h,rfl,ht,i1,i2,_,rfl,g9 ?_⟩;exact⟨_,rfl,rfl⟩
  ·rintro σ H3 ⟨o4,rfl,rfl⟩;exact⟨_,_,rfl,rfl⟩
 ·rintro σ H2 ⟨o3,o4,rfl,rfl⟩;exact q
def jV(K:Frag)(P:Program)(w:World):Sp:=fun vs H Q _=>∃(a:Addr)(wd hh g:Nat),vs=[.ref a,.int (g:Nat)]/\SqT K H a [.int (wd:Nat),.int (hh:Nat)]/\(0<wd/\wd<=8)/\(0<hh/\hh<=8)/\g<2^(wd*hh)/\∀l vs Ws H',aq H H'->H' l=some (.lst vs)->Paired (fk K H') vs (Ws.map LO.az)->LO.Rs (LO.grd wd hh g) Ws->(Ws.map fun W=>LT.ptN (LO.dD W)).Pairwise (·<=·)->Ws.flatten.length<=256->Ws.length<=256->(∀v∈vs,v≠ .ref l)->Q (.ref l) H'
variable(eS:Df P w K mg base 4 "rings" ["floor","cells"] (jV K P w))
theorem cD:aB ["floor","cells","some","known","walked","found","first","walk","side"] ["floor","cells"] (au (top 12)):=by trivial
include B gz cK cN in
theorem oI(T:Tx K mg "rings" (top 12) ["floor","cells"]):Df P w K mg base 4 "rings" ["floor","cells"] (jV K P w):=by
 refine T.df cD (by rintro _ _ _ _ ⟨a,wd,hh,g,rfl,hT,⟨hw,hw8⟩,⟨hh0,hh8⟩,hg,q⟩;rfl) ?_;rintro f _ A _ s H _ Q E hr ⟨a,wd,hh,g,rfl,hT,⟨hw,hw8⟩,⟨hh0,hh8⟩,hg,q⟩;have hu:=hr.units;refine bb ?_;intro kX;refine af 5 (ai (aC (a7 (LT.ig hu) (by rfl) B.sorted (by trivial) (aa (pv 5) ag)))) ?_;intro kR5 pR5;refine af 4 (ah (cG vR rfl (bK (pv 2)) (aN (i:=6) cD.nd rfl (by trivial)) (ai (br (jl (iO hu (pv 6) (pv 4))) (ah (ao (i:=7) cD.nd rfl (by trivial) (aL cK hr (aa (pv 3) (aa (pv 6) ag)))) (ah (cA (e9 vB vI vH bg (pv 5) (aa (aL cN hr (aa (pv 7) ag)) ag))) (ai (cG vR rfl (bK (pv 7)) (aN (i:=8) cD.nd rfl (by trivial)) (ai (mq hu (pv 4) (pv 8) dZ rfl)))))) aF))) pR5) ?_;intro kR4 pR4;refine af 3 (ah (ao (i:=5) cD.nd rfl (by trivial) (cQ ag)) pR4) ?_;intro kR3 pR3;refine af 2 (ah (ao (i:=4) cD.nd rfl (by trivial) j5) pR3) ?_;intro kR2 pR2;refine af 1 (ah (ao (i:=3) cD.nd rfl (by trivial) (iN (lN rfl hu) (by rfl) B.dict boot_dict (aa (cR ["side"] [] (fN _ []) rfl (by rfl) rfl (by trivial) (by trivial) (a9 (by rfl)) (dR (by rfl)) mN mN (dc (by decide)) (bK (pv 2)) (fun _ _ _ _=>aN (i:=0) (show(["side"]:List Str).Nodup by trivial) rfl (Or.inl rfl) (Or.inr rfl)) (fun _ _ _ _=>fE) (fun _ _ _ _=>(aV (aa (pv 0) (aa dZ ag))))) ag))) pR2) ?_;intro kR1 pR1;refine⟨_,(ah (ao (i:=2) cD.nd rfl (by trivial) (aL gz hr (aa (pv 0) (aa (pv 1) ag)))) pR1),?_⟩;refine⟨_,rfl,_,rfl,a,wd,hh,g,rfl,hT,⟨hw,hw8⟩,⟨hh0,hh8⟩,hg,fun ls vs U H1 s1 hls pU ndU memU soU lU=>?_⟩;obtain⟨zs,rfl,ezU,hz⟩:=mh pU;have lz:zs.length=U.length:=by rw[<-ezU,uF]
 refine⟨_,rfl,ls,rfl,⟨_,SqL.of hls⟩,fun D hD=>?_⟩;obtain⟨kvs,ek⟩:∃kvs:CT,kvs=zs.map fun z=>(aI z.2,z.1,V.bl true):=⟨_,rfl⟩;have lk:kvs.length=U.length:=by rw[ek,uF,lz]
 refine mO (K:=K) (a:=ls) (xs:=zs.map fun z=>V.ref z.1) (fun i acc H2=>aq H1 H2/\H2 D=some (.lst acc)/\Paired (fun v (kv:Col×Addr×V)=>∃r,v=.ref r/\SqT K H2 r [.ref kv.2.1,kv.2.2]/\d8 K H2 kv.2.1 kv.1) acc (kvs.take i)) ⟨aq.upd hD,ab,.nil⟩ (fun i acc H2 _ z=>SqL.of (z.1 _ _ hls)) ?_ ?_
 ·rintro i v acc H2 hi ⟨s2,h2,pr⟩;refine gq ?_;intro kq1 kr1;rw[vz]at hi;obtain⟨z,hzi,rfl⟩:=wq.mp hi;have hki:kvs[i]?=some (aI z.2,z.1,V.bl true):=by rw[ek,vz,hzi];rfl
  have cz:=bR (aY s2.tk (hz z (vi hzi)));refine⟨_,rfl,aE rfl,fun r hr=>?_⟩;have u3:=aq.upd (o:=.tup [.ref z.1,.bl true]) hr;have lacc:acc.length<sizeLine:=by rw[vx pr,vb];exact aD (by omega)
  have tk2:=TK.lst (o:=.lst (acc++[.ref r])) (u3 _ _ h2);refine⟨u3 _ _ h2,lacc,fun b5 o5 e5=>?_,ab,?_⟩
  ·rw[ak (fun z=>by rw[z,hD]at e5;cases e5)];exact u3 _ _ (s2 _ _ e5)
  ·rw[vo,hki,vu];exact Paired.app (Paired.imp (fun _ _ ⟨r,e,h1,h2⟩=>⟨r,e,tk2.sq (u3.tup h1),(h2.tk u3.tk).tk tk2⟩) pr) (.cons ⟨r,rfl,tk2.sq (SqT.of ab),(cz.tk u3.tk).tk tk2⟩ .nil)
 rintro acc H2 ⟨s2,h2,pr⟩;rw[uF,lz,<-lk,vO]at pr;refine⟨D,acc,kvs,rfl,h2,by omega,pr,fun dk ok hdk ho nmk=>?_⟩;have u3:=aq.upd (o:=b8 dk ok) hdk
 have ck:cb P w K (upd H2 dk (b8 dk ok)) dk ok (mkT kvs):=⟨ab,ho,nmk,fun t ht=>by
  obtain⟨x,hx,e1,e2⟩:=qx t ht;rw[ek]at hx;obtain⟨z,hz',rfl⟩:=u0.mp hx;rw[e1,e2]
  exact(bR (aY s2.tk (hz z hz'))).tk u3.tk⟩
 have knk:Kn (mkT kvs) (fun s=>s∈U):=tS (by rw[ek,vU,<-ezU,vU];rfl);obtain⟨G,eG⟩:∃G,G=LO.grd wd hh g:=⟨_,rfl⟩;rw[<-eG]at memU;have hmk:∀t,(L2.atT (mkT kvs) (aI t)).isSome=LO.brd G t:=fun t=>wo.mpr ((knk.at t).trans (memU t));have sa:=s1.trans (s2.trans u3);have hlsa:=u3 _ _ (s2 _ _ hls);have hza:∀z∈zs,LT.c0 K (upd H2 dk (b8 dk ok)) z.1 z.2:=fun z h=>aY (s2.trans u3).tk (hz z h);generalize (upd H2 dk (b8 dk ok))=H3 at ck sa hlsa hza ⊢;clear pr h2 s2 u3 hz;refine fun dw hdw nmw=>?_;have u4:=aq.upd (o:=b8 dw cW) hdw;have cw:cb P w K (upd H3 dw (b8 dw cW)) dw cW []:=⟨ab,ic P w,nmw,fun t ht=>nomatch ht⟩;generalize (upd H3 dw (b8 dw cW))=H4 at u4 cw ⊢;refine⟨aE rfl,fun lf hlf=>?_⟩;have u5:=aq.upd (o:=.lst []) hlf;have cw5:=bT u5 cw;have k5:(upd H4 lf (.lst [])) lf=some (.lst []):=ab;have s35:=u4.trans u5;generalize (upd H4 lf (.lst []))=H5 at u5 cw5 k5 s35 ⊢;have H3f:H3 lf=none:=by
  cases z:H3 lf with
  |none=>rfl
  |some o=>rw[u4 _ _ z]at hlf;cases hlf
 have okU:∀t∈U,LT.iq t:=fun t ht=>LO.lO hw8 hh8 (LO.aP.mp (eG▸(memU t).mp ht)).1;have fin:∀V:List LO.Sd,V.Nodup->(∀t∈V,LO.brd G t=true)->V.length<=256:=fun V nd hb=>wF (LM.length_le_of_subset nd fun t ht=>(memU t).mpr (hb t ht)) lU;have hms:∀(i:Nat)(v:V),(zs.map fun z=>V.ref z.1)[i]?=some v->∃b sd,v=.ref b/\U[i]?=some sd/\LT.c0 K H3 b sd:=fun i v hi=>by rw[vz]at hi;obtain⟨z,hzi,rfl⟩:=wq.mp hi;exact⟨z.1,z.2,rfl,by rw[<-ezU,vz,hzi];rfl,hza z (vi hzi)⟩
 refine⟨_,rfl,ls,rfl,⟨_,SqL.of (s35 _ _ hlsa)⟩,bZ (K:=K) (a:=ls) (xs:=zs.map fun z=>V.ref z.1) (fun i σ H6=>∃(o6 o7 o8:Option V)(ow:Obj)(T:CT)(vf:List V)(Ws:List (List LO.Sd)),σ=[some (.ref a),some (.int (g:Nat)),some (.ref ls),some (.ref dk),some (.ref dw),some (.ref lf),o6,o7,o8]/\aq H3 H6/\cb P w K H6 dw ow T/\Kn T (fun s=>s∈Ws.flatten)/\H6 lf=some (.lst vf)/\Paired (FoE lf K H6) vf Ws/\LO.Rg G U i Ws) ⟨none,none,none,_,_,[],[],rfl,s35,cw5,lD.congr fun s=>by simp,k5,.nil,LO.rJ⟩ (fun i σ H6 _ hPz=>hPz.elim fun _ hPz=>hPz.elim fun _ hPz=>hPz.elim fun _ hPz=>hPz.elim fun _ hPz=>hPz.elim fun _ hPz=>hPz.elim fun _ hPz=>hPz.elim fun _ hPz=>(fun z=>SqL.of (z _ _ hlsa)) (hPz.2.1)) ?_ ?_⟩
 ·rintro i v σ H6 hi ⟨o6,o7,o8,ow,T,vf,Ws,rfl,s6,c6,kn6,k6,pf6,rg⟩;refine d7 ?_;intro kD2;obtain⟨b,sd,rfl,hUi,hb⟩:=hms i v hi;have hb6:=aY s6.tk hb;refine⟨_,rfl,_,rfl,dw,ow,T,b,_,rfl,c6,rfl,bR hb6,_,rfl,?_⟩;refine bP (fun z=>?_) (fun z=>?_)
  ·replace z:(!(L2.atT T (aI sd)).isSome)=true:=z;have hnot:sd∉Ws.flatten:=fun y=>by
    rw[(kn6.at sd).mpr y]at z;cases z
   have bsd:LO.brd G sd=true:=(memU sd).mp (vi hUi);refine⟨_,rfl,_,rfl,dk,b,ok,mkT kvs,sd,G,rfl,bT s6 ck,hmk,hb6,bsd,fin,fun lw vw n H7 nw s7 hlw pW n0 en ndW=>?_⟩;obtain⟨lwk,rg2⟩:=rg.add memU okU soU hUi hnot n0 en ndW;have lW:(LO.wlk G sd n).length<=256:=fin _ ndW fun t ht=>lwk.is.brd t ht;generalize LO.wlk G sd n=W at pW ndW lwk rg2 lW;refine⟨_,rfl,.inl ⟨rfl,_,SqL.of (s7 _ _ k6)⟩,_,rfl,lw,vw,W,rfl,hlw,pW,lW,fun lr xr H8 nr s8 hlr pR=>?_⟩;have k8:=s8 _ _ (s7 _ _ k6);have nlr:lr≠lf:=fun z=>by rw[z,s7 _ _ k6]at nr;cases nr
   have nlw:lw≠lf:=fun z=>by rw[z,k6]at nw;cases nw
   have lvf:vf.length<sizeLine:=by rw[vx pf6];have:=rg2.len;have:=(uS.mp hUi).1;rw[uO]at*;exact aD (by simp at*;omega)
   refine⟨lf,_,_,rfl,rfl,k8,lvf,?_⟩;have tk9:=TK.lst (o:=.lst (vf++[.ref lr])) k8;have s9:aq H3 (upd H8 lf (.lst (vf++[.ref lr]))):=fun b5 o5 e5=>by rw[ak (fun z=>by rw[z,H3f]at e5;cases e5)];exact s8 _ _ (s7 _ _ (s6 _ _ e5))
   have lw9:(upd H8 lf (.lst (vf++[.ref lr]))) lw=some (.lst vw):=(by rw[ak nlw];exact s8 _ _ hlw);have pW9:Paired (cX K (upd H8 lf (.lst (vf++[.ref lr])))) vw W:=Paired.imp (fun _ _ z=>cX.tk tk9 (cX.tk s8.tk z)) pW;have c8:=bT s8 (bT s7 c6);have c9:cb P w K (upd H8 lf (.lst (vf++[.ref lr]))) dw ow T:=⟨by rw[ak (fun z=>by have:=c8.1;rw[z,k8]at this;cases this)];exact c8.1,c8.2.1,c8.2.2.1,fun t ht=>(c8.2.2.2 t ht).tk tk9⟩;have k9:(upd H8 lf (.lst (vf++[.ref lr]))) lf=some (.lst (vf++[.ref lr])):=ab;have pf9:Paired (FoE lf K (upd H8 lf (.lst (vf++[.ref lr])))) (vf++[.ref lr]) (Ws++[W]):=Paired.app (Paired.imp (fun _ _ z=>((z.same s7).same s8).put k8) pf6) (.cons (FoE.put k8 ⟨lr,rfl,nlr,xr,hlr,pR⟩) .nil);generalize (upd H8 lf (.lst (vf++[.ref lr])))=H9 at s9 lw9 pW9 c9 k9 pf9 ⊢;have inU:∀s,s∈Ws.flatten\/s∈W->s∈U:=fun s hs=>(memU s).mpr (rg2.brd s (by rw[wL,List.flatten_singleton,uR];exact hs));refine⟨_,rfl,lw,rfl,⟨_,SqL.of lw9⟩,bZ (K:=K) (a:=lw) (xs:=vw) (fun j σ H7=>∃(o8:Option V)(ow:Obj)(T:CT),σ=[some (.ref a),some (.int (g:Nat)),some (.ref ls),some (.ref dk),some (.ref dw),some (.ref lf),some (.ref b),some (.ref lw),o8]/\aq H3 H7/\H7 lw=some (.lst vw)/\Paired (cX K H7) vw W/\cb P w K H7 dw ow T/\Kn T (fun s=>s∈Ws.flatten\/s∈W.take j)/\H7 lf=some (.lst (vf++[.ref lr]))/\Paired (FoE lf K H7) (vf++[.ref lr]) (Ws++[W])) ⟨o8,ow,T,rfl,s9,lw9,pW9,c9,kn6.congr fun s=>by simp,k9,pf9⟩ (fun j σ H7 _ hPz=>hPz.elim fun _ hPz=>hPz.elim fun _ hPz=>hPz.elim fun _ hPz=>(fun z=>SqL.of z) (hPz.2.2.1)) ?_ ?_⟩
   ·rintro j v σ Hj hj ⟨o8',ow',T',rfl,sj,lwj,pWj,cj,knj,kj,pfj⟩;refine d7 ?_;intro kD3;obtain⟨td,htd,bt,rfl,hbt⟩:=aZ pWj hj;have lT:T'.length<1000:=by
     have:=knj.len (U:=U) fun s hs=>inU s (hs.imp id fun z=>vT z);omega
    refine⟨_,rfl,_,rfl,dw,ow',T',bt,_,rfl,cj,rfl,bR hbt,lT,fun o' ho'=>?_⟩;have tk:=TK.obj (o:=b8 dw o') cj.1;refine⟨_,o',_,rfl,fun b5 o5 e5=>?_,?_,Paired.imp (fun _ _ z=>cX.tk tk z) pWj,iZ cj (bR hbt) ho',(lC knj td bt _).congr fun s=>?_,?_,Paired.imp (fun _ _ z=>FoE.obj cj.1 z) pfj⟩
    ·rw[ak (fun z=>by rw[z,hdw]at e5;cases e5)];exact sj _ _ e5
    ·rw[ak (fun z=>by rw[z,cj.1]at lwj;cases lwj)];exact lwj
    ·rw[vo,htd,vu,uR,uV,or_assoc]
    ·rw[ak (fun z=>by rw[z,cj.1]at kj;cases kj)];exact kj
   ·rintro σ Hj ⟨o8',ow',T',rfl,sj,lwj,pWj,cj,knj,kj,pfj⟩;rw[vx pWj,vO]at knj;exact⟨_,_,_,ow',T',_,_,rfl,sj,cj,knj.congr fun s=>by rw[wL,List.flatten_singleton,uR],kj,pfj,rg2⟩
  ·replace z:¬(!(L2.atT T (aI sd)).isSome)=true:=z;have hin:sd∈Ws.flatten:=(kn6.at sd).mp (by cases y:(L2.atT T (aI sd)).isSome with|true=>rfl|false=>rw[y]at z;exact(z rfl).elim);exact⟨_,_,_,ow,T,vf,Ws,rfl,s6,c6,kn6,k6,pf6,rg.skip hUi hin⟩
 ·rintro σ H6 ⟨o6,o7,o8,ow,T,vf,Ws,rfl,s6,c6,kn6,k6,pf6,rg⟩;rw[uF,lz]at rg;have rs:=rg.rs memU;obtain⟨tz,rfl,e2,htz⟩:=sE pf6;have lF:Ws.flatten.length<=256:=fin _ rs.nd fun t ht=>(rs.all t).mp ht;have ltz:tz.length=Ws.length:=by rw[<-e2,uF]
  have mtz:∀z∈tz,z.2∈Ws:=fun z h=>e2▸wK h;have l256:Ws.length<=256:=wF rg.len lU;refine⟨_,rfl,lf,tz.map fun z=>(z.1,LO.dD z.2),rfl,?_,?_,?_,?_,?_,fun l ys hl pm so=>?_⟩
  ·rw[vU];exact SqL.of k6
  ·intro z hz;obtain⟨y,hy,rfl⟩:=u0.mp hz;obtain⟨s,n,l⟩:=rs.wk y.2 (mtz y hy);obtain⟨R,eR⟩:=l.head;obtain⟨xs,h1,h2⟩:=htz y hy;rw[eR]at h2;cases h2 with
   |cons hp _=>obtain⟨p,rfl,hp⟩:=hp;refine⟨p,_,h1,?_⟩;show SqT K H6 p [.int (LO.dD y.2).1,.int (LO.dD y.2).2];rw[l.fst];exact hp
  ·intro z hz;obtain⟨y,hy,rfl⟩:=u0.mp hz;obtain⟨s,n,l⟩:=rs.wk y.2 (mtz y hy);obtain⟨a1,a2,_⟩:=okU s ((memU s).mpr l.b);show LT.gN (LO.dD y.2);rw[l.fst];exact⟨a1,a2⟩
  ·rw[vU];have:=LO.Rg.unlike rs.wk rs.nd;rw[<-e2,vU]at this;exact this
  ·rw[uF];omega
  ·obtain⟨k,pk,rfl⟩:=LO.eE pm rfl;rw[show(k.map fun z=>((z.1,LO.dD z.2):Addr×(Int×Int))).map (fun z=>V.ref z.1)=k.map (fun z=>V.ref z.1)from vU];have u7:=aq.upd (o:=.lst (k.map fun z=>V.ref z.1)) hl;have pW:(k.map (·.2)).Perm Ws:=e2▸pk.map _;refine q l _ (k.map (·.2)) _ (sa.trans (s6.trans u7)) ab ?_ (eG▸rs.perm pW) ?_ ?_ ?_ ?_
   ·exact kM fun z hz=>(htz z (pk.mem_iff.mp hz)).same u7
   ·rw[vU]at so ⊢;exact so
   ·rw[pW.flatten.length_eq];exact lF
   ·rw[pW.length_eq];exact l256
   ·intro v hv e;obtain⟨z,hz,rfl⟩:=u0.mp hv;obtain⟨_,h1,_⟩:=htz z (pk.mem_iff.mp hz);cases e;rw[hl]at h1;cases h1
def nW(K:Frag):Sp:=fun vs H Q _=>∃(a:Addr)(ns:List Int),vs=[.ref a]/\SqL K H a (ns.map V.int)/\ns.length<=63/\∀H',Q (.bl true) H'
theorem cf:aB ["_law_script","_law_wide","_law_high","_law_ground_here","_law_found","_law_kept","_law_due","_law_one","_law_told","_law_areas","_law_many","_law_ring"] ["_law_script"] (au (top 26)):=by trivial
include B cM eS cL bA bh dY bo mR in
theorem rY{f:Addr}{fd:FuncData}(F:Fun K "law" "law" (top 26) f fd):jN P w K mg base CX0 5 f fd ["_law_script"] (nW K):=by
 refine F.ok cf (by rintro _ _ _ _ ⟨a,ns,rfl,hS,hlen,q⟩;rfl) ?_;rintro _ A _ s H _ Q E hr ⟨a,ns,rfl,hS,hlen,q⟩;have hu:=hr.units;refine bb ?_;intro kX;refine af 11 (ai (aC (cB (rW hu) (aL eS hr (aa (aV (aa (pv 1) (aa (pv 2) ag))) (aa (pv 3) ag))) (pv 5) (aG _)))) ?_;intro kR11 pR11;refine af 10 (ah (cG vR rfl (bK (pv 4)) (aN (i:=11) cf.nd rfl (by trivial)) (ai (cA (e9 vB vI vH bg (pv 11) (aa (aV (aa ae (aa ae ag))) ag))))) pR11) ?_;intro kR10 pR10;refine af 9 (ah (cA (e9 vB vI vH bg (pv 4) (aa (cQ (aa (aV (aa ae (aa ae ag))) ag)) ag))) pR10) ?_;intro kR9 pR9;refine af 8 (ah (br ((jX (aM (gS hu) (pv 4) (a7 (LT.ig hu) (by rfl) B.sorted (by trivial) (aa (pv 6) ag)) (aG _)) (kT (aM (gS hu) (pv 4) (pv 5) (aG _)))).pt) (ai (aC dZ)) aF) pR9) ?_;intro kR8 pR8;refine aK 7 5 (ai (ao (i:=6) cf.nd rfl (by trivial) (aj rX (pv 6) (pv 8)))) ?_;intro kS7x5 pS7x5;refine aK 7 4 (ah (br ((jX (aM mv (a7 b7 (by rfl) B.len PySem.boot_len (aa (cR ["_law_area_here"] [] (fN _ []) rfl (by rfl) rfl (by trivial) (by trivial) (a9 (by rfl)) (dR (by rfl)) mN mN (dc (by decide)) (bK (pv 9)) (fun _ _ _ _=>aN (i:=0) (show(["_law_area_here"]:List Str).Nodup by trivial) rfl (Or.inl rfl) (Or.inr rfl)) (fun _ _ _ _=>eD (aM oC (pv 0) ae (aG _))) (fun _ _ _ _=>(pv 0))) ag)) ae (aG _)) (kT (aM mv (a7 (nO rfl) (by rfl) mR boot_sum (aa (pv 9) ag)) (aj dO ae (pv 10)) (aG _)))).pt) (ai (aC dZ)) aF) pS7x5) ?_;intro kS7x4 pS7x4;refine aK 7 3 (ah (ao (i:=10) cf.nd rfl (by trivial) (a7 b7 (by rfl) B.len PySem.boot_len (aa (cR ["_law_k"] [("_law_one",7)] (fN _ ["_law_one"]) rfl (by rfl) rfl (by trivial) (by trivial) (a9 (by rfl)) (dR (by rfl)) (mC ⟨rfl,rfl⟩ mN) (mC rfl mN) (dc (by decide)) (cP (by rfl) B.range (aa (aj dO (pv 1) (pv 2)) ag)) (fun _ _ _ _=>aN (i:=0) (show(["_law_k","_law_one"]:List Str).Nodup by trivial) rfl (Or.inl rfl) (Or.inr rfl)) (fun _ _ _ _=>eD (cn (aL bo hr (aa (pv 1) (aa (pv 0) ag))))) (fun _ _ _ _=>(pv 0))) ag))) pS7x4) ?_;intro kS7x3 pS7x3;refine aK 7 2 (ah (mn (i:=9) cf.nd rfl (by trivial) ["_law_ring"] [] (fN _ []) rfl (by rfl) rfl (by trivial) (by trivial) (a9 (by rfl)) (dR (by rfl)) mN mN (dc (by decide)) (bK (pv 8)) (fun _ _ _ _=>aN (i:=0) (show(["_law_ring"]:List Str).Nodup by trivial) rfl (Or.inl rfl) (Or.inr rfl)) (fun _ _ _ _=>fE) (fun _ _ _ _=>(aL dY hr (aa (pv 0) ag)))) pS7x3) ?_;intro kS7x2 pS7x2;refine aK 7 1 (ah (br (dM (cn (aL bh hr (aa (pv 8) (aa (pv 1) (aa (pv 2) ag)))))) (ai (aC dZ)) aF) pS7x2) ?_;intro kS7x1 pS7x1;refine aK 7 0 (ah (ao (i:=8) cf.nd rfl (by trivial) (aL eS hr (aa (aV (aa (pv 1) (aa (pv 2) ag))) (aa (pv 7) ag)))) pS7x1) ?_;intro kS7x0 pS7x0;refine af 7 (ah (cG vR rfl (bK (aL cL hr (aa (pv 1) (aa (pv 2) (aa (pv 3) ag))))) (aN (i:=7) cf.nd rfl (by trivial)) pS7x0) pR8) ?_;intro kR7 pR7;refine af 6 (ah (ao (i:=6) cf.nd rfl (by trivial) (cQ ag)) pR7) ?_;intro kR6 pR6;refine af 5 (ah (mn (i:=5) cf.nd rfl (by trivial) ["_law_ring"] [] (fN _ []) rfl (by rfl) rfl (by trivial) (by trivial) (a9 (by rfl)) (dR (by rfl)) mN mN (dc (by decide)) (bK (pv 4)) (fun _ _ _ _=>aN (i:=0) (show(["_law_ring"]:List Str).Nodup by trivial) rfl (Or.inl rfl) (Or.inr rfl)) (fun _ _ _ _=>fE) (fun _ _ _ _=>(iN (iC (K:=K) rfl) (by rfl) B.list boot_list (aa (pv 0) ag)))) pR6) ?_;intro kR5 pR5;refine af 4 (ah (br (dM (cn (aL bh hr (aa (pv 4) (aa (pv 1) (aa (pv 2) ag)))))) (ai (aC dZ)) aF) pR5) ?_;intro kR4 pR4;refine af 3 (ah (ao (i:=4) cf.nd rfl (by trivial) (aL eS hr (aa (aV (aa (pv 1) (aa (pv 2) ag))) (aa (pv 3) ag)))) pR4) ?_;intro kR3 pR3;refine af 2 (ah (ao (i:=3) cf.nd rfl (by trivial) (aL cM hr (aa (aL bA hr (aa (pv 0) (aa ae ag))) (aa (pv 1) (aa (pv 2) ag))))) pR3) ?_;intro kR2 pR2;refine af 1 (ah (ao (i:=2) cf.nd rfl (by trivial) (aj bB ae (aj a8 (aj bL (aL bA hr (aa (pv 0) (aa ae ag))) ae) ae))) pR2) ?_;intro kR1 pR1;refine⟨_,(ah (ao (i:=1) cf.nd rfl (by trivial) (aj bB ae (aj a8 (aL bA hr (aa (pv 0) (aa ae ag))) ae))) pR1),?_⟩;obtain⟨w,ew,hw,hw8⟩:=rp (ns.getD 0 0);obtain⟨h,eh,hh,hh8⟩:=rp (ns.getD 0 0 / 8);have hwh:w*h<=64:=Nat.mul_le_mul hw8 hh8;have hwp:0<w*h:=Nat.mul_pos hw hh;have e1:((w:Int)*(h:Int))=((w*h:Nat):Int):=by simp
 refine⟨_,rfl,a,ns,0,rfl,hS,_,_,rfl,rfl,(by show(0:Int)<_;decide),_,_,rfl,rfl,?_⟩;simp only[ew];refine⟨_,rfl,a,ns,0,rfl,hS,_,_,rfl,rfl,⟨by decide,by decide⟩,_,_,rfl,rfl,(by show(0:Int)<_;decide),_,_,rfl,rfl,?_⟩;simp only[eh];refine⟨_,rfl,a,ns,1,rfl,hS,_,rfl,_,rfl,_,w,h,rfl,⟨hw,hw8,hh,hh8⟩,fun g H1 hg s1=>?_⟩;refine⟨_,rfl,_,rfl,aE rfl,fun t1 ht1=>?_⟩;have u2:=aq.upd (o:=.tup [.int (w:Nat),.int (h:Nat)]) ht1;have z2:SqT K (upd H1 t1 (.tup [.int (w:Nat),.int (h:Nat)])) t1 [.int (w:Nat),.int (h:Nat)]:=SqT.of ab;generalize (upd H1 t1 (.tup [.int (w:Nat),.int (h:Nat)]))=H2 at u2 z2 ⊢;refine⟨_,rfl,t1,w,h,g,rfl,z2,⟨hw,hw8⟩,⟨hh,hh8⟩,hg,fun lf vf Ws H3 s3 hlf pf rs so lF lW nf=>?_⟩
 refine⟨_,rfl,_,rfl,_,rfl,lf,vf,Ws.map LO.az,w,h,rfl,hlf,pf,fun R hR p hp=>by
  obtain⟨W,hW,rfl⟩:=u0.mp hR;obtain⟨s,n,lw⟩:=rs.wk W hW;obtain⟨sd,hsd,rfl⟩:=LO.gA hp;obtain⟨a1,a2,_⟩:=LO.jI (LO.aP.mp (lw.is.brd sd hsd)).1
  exact⟨a1,a2⟩,_,rfl,g9 ?_⟩
 have okp:∀s,LO.brd (LO.grd w h g) s=true->LT.gN s.st:=fun s hs=>by obtain⟨a1,a2,_⟩:=LO.lO hw8 hh8 (LO.aP.mp hs).1;exact⟨a1,a2⟩
 clear s1 u2 z2 s3;refine⟨_,rfl,lf,rfl,⟨_,SqL.of hlf⟩,fun D hD=>?_⟩;obtain⟨AA,eAA⟩:∃AA:Addr->Prop,AA=fun b=>b=D\/H3 b≠none:=⟨_,rfl⟩;refine mO (K:=K) (a:=lf) (xs:=vf) (fun i acc H6=>aq H3 H6/\H6 D=some (.lst acc)/\Paired (KpE AA K H6) acc ((Ws.map LO.az).take i)) ⟨aq.upd hD,ab,.nil⟩ (fun i acc H6 _ z=>SqL.of (z.1 _ _ hlf)) ?_ ?_
 ·rintro i v acc H6 hi ⟨s6,h6,pr⟩;refine gq ?_;intro kq1 kr1;obtain⟨R,hR,b,rfl,xs,hb,pxs⟩:=aZ pf hi;refine⟨_,rfl,b,xs,rfl,.inl (SqL.of (s6 _ _ hb)),fun l hl=>?_⟩;have u7:=aq.upd (o:=.lst xs) hl;have k7:(upd H6 l (.lst xs)) l=some (.lst xs):=ab;generalize (upd H6 l (.lst xs))=H7 at u7 k7 ⊢;have nA:¬AA l:=by
   rw[eAA];rintro(z|z)
   ·rw[z,h6]at hl;cases hl
   ·exact z (none_of s6 hl)
  have AD:AA D:=by rw[eAA];exact .inl rfl
  have lacc:acc.length<sizeLine:=by rw[vx pr,vb,uF];exact aD (by omega)
  have hD7:=u7 _ _ h6;refine⟨hD7,lacc,fun b5 o5 e5=>?_,ab,?_⟩
  ·rw[ak (fun z=>by rw[z,hD]at e5;cases e5)];exact u7 _ _ (s6 _ _ e5)
  ·rw[vo,hR,vu];exact Paired.app (Paired.imp (fun _ _ z=>(z.same u7).put AD hD7) pr) (.cons (KpE.put AD hD7 ⟨l,rfl,nA,xs,k7,Paired.imp (fun _ _ z=>PtE.tk (s6.trans u7).tk z) pxs⟩) .nil)
 rintro vk H6 ⟨s6,hlk,pk⟩;rw[vx pf,vO]at pk;have oldf:∀v∈vf,∃b,v=.ref b/\AA b/\b≠lf/\b≠D/\∃xs,H6 b=some (.lst xs)/\xs.length<=256:=fun v hv=>by obtain⟨i,hi⟩:=List.getElem?_of_mem hv;obtain⟨R,hR,b,rfl,xs,hb,pxs⟩:=aZ pf hi;refine⟨b,rfl,by rw[eAA];exact .inr (by rw[hb];exact fun z=>nomatch z),fun z=>nf _ hv (by rw[z]),fun z=>(by rw[z,hD]at hb;cases hb),xs,s6 _ _ hb,?_⟩;rw[vz]at hR;obtain⟨W,hW,rfl⟩:=wq.mp hR;have mW:=vi hW;obtain⟨s,n,lw⟩:=rs.wk W mW;rw[vx pxs];have e1:=gB (LO.ff W) W;have e2:=LM.length_le_of_subset (l2:=Ws.flatten) lw.nd fun x hx=>wO.mpr ⟨W,mW,hx⟩;show(LO.cor (LO.ff W) W).length<=256;omega
 have Af:AA lf:=by rw[eAA];exact .inr (by rw[hlf];exact fun z=>nomatch z)
 have nDf:D≠lf:=fun z=>by rw[z,hlf]at hD;cases hD
 have AD:AA D:=by rw[eAA];exact .inl rfl
 replace hlf:=s6 _ _ hlf;replace pf:=Paired.imp (fun _ _ z=>fk.same s6 z) pf;clear s6 eAA nf;refine⟨aE rfl,fun l0 hl0=>?_⟩;have u7:=aq.upd (o:=.lst []) hl0;have k7:(upd H6 l0 (.lst [])) l0=some (.lst []):=ab;generalize (upd H6 l0 (.lst []))=H7 at u7 k7 ⊢;refine⟨_,rfl,_,rfl,_,rfl,w,h,g,rfl,⟨hw,hw8,hh8⟩,hg,fun lp ps H8 _ s8 hlp isP=>⟨lp,rfl,⟨_,SqL.of hlp⟩,?_⟩⟩;have s78:=u7.trans s8;replace k7:=s8 _ _ k7;obtain⟨pc1,_,_⟩:=LO.oy hw hg hwh isP;refine bZ (K:=K) (a:=lp) (xs:=NV ps) (fun i σ HH=>∃(o7 o8 o9 o10:Option V)(ld:Addr)(vd:List V)(L:List (List (List LO.Sd))),σ=[some (.ref a),some (.int (w:Nat)),some (.int (h:Nat)),some (.int (g:Nat)),some (.ref lf),some (.ref D),some (.ref ld),o7,o8,o9,o10,none]/\aq H8 HH/\HH ld=some (.lst vd)/\Paired (fk K HH) vd (L.flatten.map LO.az)/\Paired (fun p Vs=>LO.Rs (LO.grd w h p) Vs) (ps.take i) L/\vd.length<=256*i) ⟨none,none,none,none,l0,[],[],rfl,aq.refl _,k7,.nil,.nil,by simp⟩ (fun i σ HH _ hPz=>hPz.elim fun _ hPz=>hPz.elim fun _ hPz=>hPz.elim fun _ hPz=>hPz.elim fun _ hPz=>hPz.elim fun _ hPz=>hPz.elim fun _ hPz=>hPz.elim fun _ hPz=>(fun z=>SqL.of (z _ _ hlp)) (hPz.2.1)) ?_ ?_
 ·rintro i v σ HH hi ⟨o7,o8,o9,o10,ld,vd,L,rfl,sH,kld,pd,pL,lvd⟩;refine d7 ?_;intro kD2;rw[vz]at hi;obtain⟨p,hp,rfl⟩:=wq.mp hi;have mp:=vi hp;have P:=pc1 p mp;obtain⟨k0,bk0⟩:=P.ne;refine⟨_,rfl,_,rfl,aE rfl,fun t2 ht2=>?_⟩;have u9:=aq.upd (o:=.tup [.int (w:Nat),.int (h:Nat)]) ht2;have z9:SqT K (upd HH t2 (.tup [.int (w:Nat),.int (h:Nat)])) t2 [.int (w:Nat),.int (h:Nat)]:=SqT.of ab;generalize (upd HH t2 (.tup [.int (w:Nat),.int (h:Nat)]))=H9 at u9 z9 ⊢;refine⟨_,rfl,t2,w,h,p,rfl,z9,⟨hw,hw8⟩,⟨hh,hh8⟩,P.lt,fun lt vt Vs H10 s10 hlt pt rsp _ lFp lWp _=>?_⟩;have t10:=u9.trans s10;clear u9 z9 s10
  refine⟨_,rfl,_,rfl,_,rfl,lt,vt,Vs.map LO.az,w,h,rfl,hlt,pt,fun R hR p hp=>by
   obtain⟨W,hW,rfl⟩:=u0.mp hR;obtain⟨s,n,lw⟩:=rsp.wk W hW;obtain⟨sd,hsd,rfl⟩:=LO.gA hp;obtain⟨a1,a2,_⟩:=LO.jI (LO.aP.mp (lw.is.brd sd hsd)).1
   exact⟨a1,a2⟩,_,rfl,g9 ?_⟩
  refine⟨_,rfl,lt,rfl,⟨_,SqL.of hlt⟩,fun D2 hD2=>?_⟩;refine mO (K:=K) (a:=lt) (xs:=vt) (fun i acc H11=>aq H10 H11/\H11 D2=some (.lst acc)/\acc=(((Vs.map LO.az).take i).map LO.eH).map V.int) ⟨aq.upd hD2,ab,rfl⟩ (fun i acc H11 _ z=>SqL.of (z.1 _ _ hlt)) ?_ ?_
  ·rintro i v acc H11 hi ⟨s11,h11,rfl⟩;refine gq ?_;intro kq3 kr3;obtain⟨R,hR,b,rfl,hb⟩:=aZ pt hi;have hR':=hR;rw[vz]at hR';obtain⟨W,hW,rfl⟩:=wq.mp hR';have mW:=vi hW;obtain⟨s,n,lw⟩:=rsp.wk W mW;have lenR:(LO.az W).length<=256:=by
    have e1:=gB (LO.ff W) W;have e2:=LM.length_le_of_subset (l2:=Vs.flatten) lw.nd fun x hx=>wO.mpr ⟨W,mW,hx⟩;show(LO.cor (LO.ff W) W).length<=256;omega
   have pb20:∀p∈LO.az W,-20<=p.1/\p.1<=20/\ -20<=p.2/\p.2<=20:=fun p hp=>by obtain⟨sd,hsd,rfl⟩:=LO.gA hp;obtain⟨a1,a2,_⟩:=LO.jI (LO.aP.mp (lw.is.brd sd hsd)).1;have a1:0<=sd.st.1/\sd.st.1<=w:=a1;have a2:0<=sd.st.2/\sd.st.2<=h:=a2;omega
   have lacc:((((Vs.map LO.az).take i).map LO.eH).map V.int).length<sizeLine:=by rw[uF,uF,vb,uF];exact aD (by omega)
   refine⟨_,rfl,b,LO.az W,rfl,hb.same s11,pb20,lenR,h11,lacc,fun b5 o5 e5=>?_,ab,?_⟩
   ·rw[ak (fun z=>by rw[z,hD2]at e5;cases e5)];exact s11 _ _ e5
   ·rw[vo,hR,vu,vW,vW];rfl
  rintro acc H11 ⟨s11,h11,eacc⟩;rw[vx pt,vO]at eacc;have ar:=rsp.area hw;have op:=rsp.one_pos hw hw8 hh8 hg (P.cp k0 bk0) bk0;have lA:((Vs.map LO.az).map LO.eH).length<=256:=by rw[uF,uF];exact lWp
  generalize (Vs.map LO.az).map LO.eH=A at eacc ar op lA;subst eacc;refine⟨_,rfl,_,rfl,_,_,rfl,rfl,.inl ⟨by omega,by omega⟩,_,rfl,by omega,by omega,fun D3 hD3=>?_⟩;rw[show(((w:Nat):Int)*((h:Nat):Int)).toNat=w*h by rw[e1];rfl];refine rA (n:=w*h) (lo:=0) (fun i acc H2=>aq H11 H2/\H2 D3=some (.lst acc)/\acc.length=((List.range i).filter p.testBit).length) ⟨aq.upd hD3,ab,rfl⟩ ?_ ?_
  ·rintro i acc H2 hi ⟨s2,h2,le⟩;rw[show(0:Int)+(i:Int)=((i:Nat):Int) by omega];refine gq ?_;intro kq4 kr4;refine⟨_,rfl,_,rfl,p,i,rfl,by omega,_,rfl,?_⟩;have hf:(List.range (i+1)).filter p.testBit=(List.range i).filter p.testBit++[i].filter p.testBit:=(by rw[List.range_succ,wU]);refine bP (fun z=>?_) (fun z=>?_)
   ·have lacc:acc.length<sizeLine:=by
     have:=(List.filter_sublist (p:=p.testBit) (l:=List.range i)).length_le;rw[wb]at this;exact aD (by omega)
    refine⟨_,rfl,h2,lacc,fun b5 o5 e5=>?_,ab,?_⟩
    ·rw[ak (fun z=>by rw[z,hD3]at e5;cases e5)];exact s2 _ _ e5
    ·rw[hf,List.filter_cons_of_pos z,List.filter_nil,uO,uO,le];rfl
   ·refine⟨s2,h2,?_⟩;rw[hf,List.filter_cons_of_neg z,List.filter_nil,vG];exact le
  rintro acc H12 ⟨s12,h12,le⟩;refine⟨D3,acc,rfl,.inl (SqL.of h12),?_⟩;have lm:acc.length<=64:=by have:=(List.filter_sublist (p:=p.testBit) (l:=List.range (w*h))).length_le;rw[wb]at this;omega
  rw[<-le]at ar;replace h11:=s12 _ _ h11;refine⟨_,rfl,D2,rfl,⟨_,SqL.of h11⟩,fun D4 hD4=>?_⟩;refine mO (K:=K) (a:=D2) (xs:=A.map V.int) (fun i acc H13=>aq H12 H13/\H13 D4=some (.lst acc)/\acc.length=((A.take i).filter fun x=>decide (0<x)).length) ⟨aq.upd hD4,ab,rfl⟩ (fun i acc H13 _ z=>SqL.of (z.1 _ _ h11)) ?_ ?_
  ·rintro i v acc H13 hi ⟨s13,h13,le⟩;refine gq ?_;intro kq5 kr5;rw[vz]at hi;obtain⟨x,hx,rfl⟩:=wq.mp hi;refine⟨_,rfl,_,_,rfl,rfl,_,rfl,?_⟩;refine bP (fun z=>?_) (fun z=>?_)
   ·have lacc:acc.length<sizeLine:=by
     have:=(List.filter_sublist (p:=fun x=>decide (0<x)) (l:=A.take i)).length_le;rw[vb]at this;exact aD (by omega)
    refine⟨_,rfl,h13,lacc,fun b5 o5 e5=>?_,ab,?_⟩
    ·rw[ak (fun z=>by rw[z,hD4]at e5;cases e5)];exact s13 _ _ e5
    ·rw[vo,hx,vu,wU,List.filter_cons_of_pos (p:=fun x=>decide (0<x)) z,List.filter_nil,uO,uO,le];rfl
   ·refine⟨s13,h13,?_⟩;rw[vo,hx,vu,wU,List.filter_cons_of_neg (p:=fun x=>decide (0<x)) z,List.filter_nil,vG];exact le
  rintro acc4 H13 ⟨s13,h13,le4⟩;rw[uF,vO,op]at le4;refine⟨D4,acc4,rfl,.inl (SqL.of h13),rfl,_,rfl,?_⟩;refine bP (fun z=>absurd z (by rw[le4];decide)) (fun _=>?_);refine⟨_,rfl,D2,A,rfl,SqL.of (s13 _ _ h11),_,rfl,_,_,rfl,rfl,.inl ⟨by omega,by omega⟩,rfl,_,rfl,?_⟩;refine bP (fun z=>absurd z (by rw[ar];simp)) (fun _=>?_);have t13:=s11.trans (s12.trans s13);have tt:=t10.trans t13;have i64:i<64:=by have h1:=(uS.mp hp).1;have h2:=isP.len hwh hg;omega
  refine⟨_,rfl,_,rfl,ld,lt,vd,vt,rfl,rfl,tt _ _ kld,t13 _ _ hlt,?_,fun l5 hl5=>?_⟩
  ·have:=vx pt;rw[uF]at this;rw[wg];omega
  have u14:=aq.upd (o:=.lst (vd++vt)) hl5;refine⟨_,_,_,_,l5,vd++vt,L++[Vs],rfl,sH.trans (tt.trans u14),ab,?_,?_,?_⟩
  ·rw[wL,List.flatten_singleton,vW];exact Paired.app (Paired.imp (fun _ _ z=>fk.same (tt.trans u14) z) pd) (Paired.imp (fun _ _ z=>fk.same (t13.trans u14) z) pt)
  ·rw[vo,hp,vu];exact Paired.app pL (.cons rsp .nil)
  ·have:=vx pt;rw[uF]at this;rw[uO];omega
 ·rintro σ HH ⟨o7,o8,o9,o10,ld,vd,L,rfl,sH,kld,pd,pL,lvd⟩;have lv:(NV ps).length=ps.length:=uF ..;rw[lv,vO]at pL;clear lvd;have rsL:=LO.qc hw hg hwh isP pL;have pmL:L.flatten.Perm Ws:=LO.fF rsL.nodup rs.nodup fun W=>⟨LO.jj rsL rs,LO.jj rs rsL⟩;have lL:L.flatten.length<=256:=by rw[pmL.length_eq];exact lW
  generalize L.flatten=LL at pd rsL pmL lL;obtain⟨tz,rfl,rfl,htz⟩:=n6 pd;replace s78:=s78.trans sH;refine⟨_,rfl,_,rfl,ld,tz.map fun z=>(z.1,LO.dD z.2),rfl,?_,sP rsL.wk htz,?_,?_,?_,fun l4 ys4 hl4 pm4 so4=>?_⟩
  ·rw[vU];exact SqL.of kld
  ·intro z hz;obtain⟨y,hy,rfl⟩:=u0.mp hz;obtain⟨s,n,l⟩:=rsL.wk y.2 (wK hy);show LT.gN (LO.dD y.2);rw[l.fst];exact okp s l.b
  ·rw[vU];have:=LO.Rg.unlike rsL.wk rsL.nd;rw[vU]at this;exact this
  ·rw[uF];rw[uF]at lL;omega
  obtain⟨k,pk4,rfl⟩:=LO.eE pm4 rfl;rw[show(k.map fun z=>((z.1,LO.dD z.2):Addr×(Int×Int))).map (fun z=>V.ref z.1)=k.map (fun z=>V.ref z.1)from vU]
  have eW:Ws=k.map (·.2):=LO.mj rs (rsL.perm (pk4.map _)) okp so (by
   rw[vU]at so4 ⊢
   exact so4)
  have u4:=aq.upd (o:=.lst (k.map fun z=>V.ref z.1)) hl4;have k4:(upd HH l4 (.lst (k.map fun z=>V.ref z.1))) l4=some (.lst (k.map fun z=>V.ref z.1)):=ab;generalize (upd HH l4 (.lst (k.map fun z=>V.ref z.1)))=H5 at u4 k4 ⊢;have p4:Paired (fk K H5) (k.map fun z=>V.ref z.1) (Ws.map LO.az):=by rw[eW];exact kM fun z hz=>(htz z (pk4.mem_iff.mp hz)).same u4
  replace s78:=s78.trans u4;replace hlf:=s78 _ _ hlf;replace hlk:=s78 _ _ hlk;replace pf:=Paired.imp (fun _ _ z=>fk.same s78 z) pf;replace pk:=Paired.imp (fun _ _ z=>KpE.same s78 z) pk;have eqW:PyData.eqv (PyData.list ((Ws.map LO.az).map fS)) (PyData.list ((Ws.map LO.az).map fS))=true:=SeqAt.eqv_refl _ (cg _);refine⟨_,_,.lst (SqL.of hlf) (cO pf),.lst (SqL.of k4) (cO p4),cg _,cg _,fR _,_,rfl,?_⟩;refine bP (fun z=>absurd z (by rw[eqW];exact uT)) (fun _=>?_);refine⟨_,rfl,_,rfl,_,_,.lst (SqL.of hlf) (cO pf),.lst (SqL.of hlk) (cO (Paired.imp (fun _ _ z=>z.rng) pk)),cg _,cg _,fR _,_,rfl,?_⟩;refine bP (fun z=>absurd z (by rw[eqW];exact uT)) (fun _=>?_);refine⟨_,rfl,.inl ⟨rfl,_,SqL.of hlf⟩,aE rfl,fun t5 ht5=>?_⟩;have u5:=aq.upd (o:=.tup [.int 0,.int 0]) ht5;generalize (upd H5 t5 (.tup [.int 0,.int 0]))=G5 at u5 ⊢;refine⟨aE rfl,fun l5 hl5=>?_⟩;have u6:=aq.upd (o:=.lst [.ref t5]) hl5;have k6:(upd G5 l5 (.lst [.ref t5])) l5=some (.lst [.ref t5]):=ab;generalize (upd G5 l5 (.lst [.ref t5]))=G6 at u6 k6 ⊢;obtain⟨A2,eA2⟩:∃A2:Addr->Prop,A2=fun b=>AA b\/b=l5:=⟨_,rfl⟩
  have pk5:Paired (KpE A2 K G6) vk (Ws.map LO.az):=Paired.imp (fun _ _ z=>((z.same u5).imp (A':=A2) fun b xs hb z=>by
   rw[eA2]at z;rcases z with z|z
   ·exact z
   ·rw[z,hl5]at hb;cases hb).same u6) pk
  have t56:=u5.trans u6;have nl5:∀b o,H5 b=some o->b≠l5:=fun b o hb z=>by have:=u5 _ _ hb;rw[z,hl5]at this;cases this
  have lvf:vf.length<=256:=by have:=vx pf;rw[uF]at this;omega
  have hlf6:=t56 _ _ hlf;have hlk6:=t56 _ _ hlk;have A2f:A2 lf:=by rw[eA2];exact .inl Af
  refine⟨lf,_,_,rfl,rfl,hlf6,aD (by omega),?_⟩;have kf7:(upd G6 lf (.lst (vf++[.ref l5]))) lf=some (.lst (vf++[.ref l5])):=ab;have kD7:(upd G6 lf (.lst (vf++[.ref l5]))) D=some (.lst vk):=by rw[ak nDf];exact hlk6
  have pk7:Paired (KpE A2 K (upd G6 lf (.lst (vf++[.ref l5])))) vk (Ws.map LO.az):=Paired.imp (fun _ _ z=>z.put A2f hlf6) pk5;have all7:∀v∈vf++[.ref l5],∃b,v=.ref b/\A2 b/\b≠lf/\b≠D/\∃xs,(upd G6 lf (.lst (vf++[.ref l5]))) b=some (.lst xs)/\xs.length<=300:=fun v hv=>by
   rcases uR.mp hv with z|z
   ·obtain⟨b,rfl,a1,a2,a3,xs,a4,a5⟩:=oldf v z;exact⟨b,rfl,by rw[eA2];exact .inl a1,a2,a3,xs,by rw[ak a2];exact t56 _ _ (s78 _ _ a4),by omega⟩
   ·refine⟨l5,uV.mp z,by rw[eA2];exact .inr rfl,(nl5 _ _ hlf).symm,(nl5 _ _ hlk).symm,_,by rw[ak (nl5 _ _ hlf).symm];exact k6,by simp⟩
  generalize (upd G6 lf (.lst (vf++[.ref l5])))=G7 at kf7 kD7 pk7 all7 ⊢;refine⟨_,rfl,lf,rfl,⟨_,SqL.of kf7⟩,bZ (K:=K) (a:=lf) (xs:=vf++[.ref l5]) (fun i σ HX=>∃(o11:Option V),σ=[some (.ref a),some (.int (w:Nat)),some (.int (h:Nat)),some (.int (g:Nat)),some (.ref lf),some (.ref D),some (.ref ld),o7,o8,o9,o10,o11]/\HX lf=some (.lst (vf++[.ref l5]))/\HX D=some (.lst vk)/\Paired (KpE A2 K HX) vk (Ws.map LO.az)/\∀v∈vf++[.ref l5],∃b,v=.ref b/\A2 b/\b≠lf/\b≠D/\∃xs,HX b=some (.lst xs)/\xs.length<=300+i) ⟨none,rfl,kf7,kD7,pk7,all7⟩ (fun i σ HX _ hPz=>hPz.elim fun _ hPz=>(fun z=>SqL.of z) (hPz.2.1)) ?_ ?_⟩
  ·rintro i v σ HX hi ⟨o11,rfl,kf,kD,pkX,all⟩;refine d7 ?_;intro kD6;have li:=(uS.mp hi).1;rw[uO]at li;have li:i<vf.length+1:=li;obtain⟨b,rfl,Ab,bf,bD,xs,hb,lx⟩:=all v (vi hi);refine⟨_,rfl,.inl ⟨rfl,_,SqL.of hb⟩,aE rfl,fun t ht=>?_⟩;have u8:=aq.upd (o:=.tup [.int 0,.int 0]) ht;generalize (upd HX t (.tup [.int 0,.int 0]))=G8 at u8 ⊢;have hb8:=u8 _ _ hb;refine⟨b,_,_,rfl,rfl,hb8,aD (by omega),?_⟩;refine⟨_,rfl,by rw[ak (Ne.symm bf)];exact u8 _ _ kf,by rw[ak (Ne.symm bD)];exact u8 _ _ kD,Paired.imp (fun _ _ z=>(z.same u8).put Ab hb8) pkX,fun v hv=>?_⟩;obtain⟨c,rfl,c1,c2,c3,ys,c4,c5⟩:=all v hv;by_cases e:c=b
   ·subst e;rw[hb]at c4;cases c4;refine⟨c,rfl,c1,c2,c3,_,ab,?_⟩;rw[uO];show xs.length+1<=300+(i+1);omega
   ·exact⟨c,rfl,c1,c2,c3,ys,by rw[ak e];exact u8 _ _ c4,by omega⟩
  ·rintro σ HX ⟨o11,rfl,kf,kD,pkX,all⟩;refine⟨_,rfl,_,rfl,aE rfl,fun t9 ht9=>?_⟩;have u9:=aq.upd (o:=.tup [.int (w:Nat),.int (h:Nat)]) ht9;have z9:SqT K (upd HX t9 (.tup [.int (w:Nat),.int (h:Nat)])) t9 [.int (w:Nat),.int (h:Nat)]:=SqT.of ab;generalize (upd HX t9 (.tup [.int (w:Nat),.int (h:Nat)]))=G9 at u9 z9 ⊢;refine⟨_,rfl,t9,w,h,g,rfl,z9,⟨hw,hw8⟩,⟨hh,hh8⟩,hg,fun l9 v9 Ws9 G10 s10 h9 p9 rs9 so9 _ _ _=>?_⟩;obtain rfl:=LO.mj rs9 rs okp so9 so;have t10:=u9.trans s10;refine⟨_,rfl,_,_,.lst (SqL.of h9) (cO p9),.lst (SqL.of (t10 _ _ kD)) (cO (Paired.imp (fun _ _ z=>(z.same t10).rng) pkX)),cg _,cg _,fR _,?_⟩;rw[eqW];exact q _
end
end My
structure PySem.W.Fast:Prop where (tw5748352280994873588 tw17905377445578135278 tw2335343412123773733 tw16470533865554063714 tw6425633776113909328 tw16445920259216052058 tw7667719557590244045 tw1245064469463322010 tw6833548803210159953 tw16243960855038922512 tw16876493256028535287 tw3947606388743155499 tw4467060263760244224 tw7576185845888866467 tw3740594265986058168 tw321847877516486828 tw16436668978431721126 tw11664106510999878375 tw9045953494610097843 tw2814471047673003397 tw15050281510715344596 tw3968820146958938621 tw3096416541124533239 tw3363436009800892934 tw9473015958695211110 tw17613854868822676367 tw7246571757181969379 tw16175129861784228782 tw10400476539823072826 tw947086392824323511 tw17169251582302850671 tw10174524782774695798 tw17233069073997765790 tw15412839231273912211 tw17850208083159207945 tw14698259094647662327 tw17637695333456250227 tw11414024910129631022 tw15462376363918222162 tw16963911467784398241 tw14267643310255855190 tw4265709614910391429 tw15035396387544388404 tw14855958834493055513 tw6636291387519655442 tw2828096057707720958 tw12237757236543189686 tw12962886684578670259 tw12114517274261668508 tw8902179245494937531 tw2516127027013709468 tw13749571326231160966 tw5888326053214133141 tw16718415508143313834 tw7404061429699076688 tw8792601197232696128 tw9502490613142697281 tw10955498223637266834 tw14942105270883954216 tw12032010147949775153 tw14927218778943090251 tw13282265647312755171 tw512856484009209066 tw6462132349127830725 tw5520289904257771661 tw9518355187360719887 tw18059293094768437439 tw3658134154835513979 tw162536452505955066 tw18036267715574616176 tw5486099397019127488 tw11646448817115777037 tw13205328274662306928 tw2645475157617275239 tw8551346735586813423 tw14300211276110148260 tw3471473238479793382 tw6786604615506990669 tw15078471973721243540 tw6646456891918706347 tw17761630153214204062 tw9683953708767983984 tw18277549856181484492 tw15975874075636750938 tw938124741201456932 tw14939142128265250032 tw1446905822749907061 tw340988884595853165 tw8992027952431255736 tw12166489336454353352 tw16076309310991773263 tw14906982812909273134 tw2478828099312178038 tw6659516906469658019 tw7397558013032740473 tw6396369742794252834 tw18320525213483261873 tw1188017114420197233 tw17698631117657726739 tw1017764017164002122 tw8037631083024619767 tw3559998993320493574 tw10957172220649931232 tw13024069872491277605 tw11971770550651613911 tw2336472532078845993 tw10633558557030905153 tw16472406750255242145 tw13573961573516914648 tw1634311534900387880 tw550522433880071104 tw5817582489803161856 tw1867059466624330862 tw11584007934965488939 tw16689656712352159599 tw16847862047265883527 tw2788273054180888443 tw12110592107604532909 tw16608022188206337010 tw3976930690048170699 tw15497861973574872871 tw487024378415311280 tw14702333465183626756 tw14618467433511015175 tw6828394135831204424 tw1483101413909792867 tw7852925889558927707 tw16654439607957783644 tw2791889880824670630 tw9388490087774645756 tw16684247704782534859 tw6579672528792366605 tw3758262700611934971 tw3576522824716318008 tw18265950147423808091 tw1177681954005610317 tw8126795437386843011 tw2810737593183494854 tw17756580072718676898 tw7731522889945362220 tw2552230010282095414 tw17597854629353804517 tw6228215824122702187 tw4080862601119172828 tw12043925436722817957 tw8020728060677963129 tw11354127461726113962 tw10099379307416254046 tw18219512735220192346:True)
open PySem PySem.W PyProof.Rows
local macro_rules
 | `(tactic|trivial)=> `(tactic|(dsimp only[L2.KOf];refine' L2.sQ (by assumption) (by assumption) ?a ?l ?c ?k (fun _ _ _ _ _ _=>by first|exact L2.tR fun _=>rfl|exact L2.tQ fun _ _=>rfl|exact L2.tP fun _ _ _=>rfl|exact L2.tO fun _ _ _ _=>rfl|exact L2.tN fun _ _ _ _ _=>rfl|exact L2.tM fun _ _ _ _ _ _=>rfl|exact L2.uz fun _ _ _ _ _ _ _=>rfl);(case a=>k_is);(case l=>k_is);(case c=>k_is);(case k=>k_is)))
set_option maxRecDepth 100000 in
set_option maxHeartbeats 0 in
theorem PySem.Challenge.cw_landroll_k19_whole_rings_of_pieces_holds : PySem.Challenge.rw_landroll_k19_whole_rings_of_pieces.Holds := by
 w_on;o_law;k_head;(case hw=>w_witness2)
 k_fill
 refine L2.nR (l:=PySem.Challenge.rw_landroll_k19_whole_rings_of_pieces) (n:=63) (k:=5) (x:="_law_script") (CX:=L2.CX0) (sp:=My.nW) rfl (by decide) rfl ⟨rfl,by decide,by decide⟩ (fun w h Y=>PySem.W.kIn_of Y) ?F ?S ?C
 case F=>
  intro w mg fa h KX G hmg;have B:L2.Bn mg:=by
   refine' L2.t7 KX G ?z0 ?z1 ?z2 ?z3 ?z4 ?z5 ?z6 ?z7 ?z8 ?z9 ?z10 ?z11 ?z12 ?z13
   (case z0=>k_is);(case z1=>k_is);(case z2=>k_is);(case z3=>k_is);(case z4=>k_is);(case z5=>k_is);(case z6=>k_is);(case z7=>k_is);(case z8=>k_is);(case z9=>k_is);(case z10=>k_is);(case z11=>k_is);(case z12=>k_is);(case z13=>k_is)
  have sR:L2.Tx (L2.KOf KX) mg "law" (My.top 26) ["_law_script"]:=by trivial
  obtain⟨f,fd,F,b,hm⟩:=sR.ex;have e0:=hmg.symm.trans hm;cases e0;obtain⟨oc,od,kV,doc,pm,an,cdv,ct,osl,rfl,lk,hcd⟩:=id F.ex;refine⟨fnOf "law" "law" (L2.dW (My.top 26)) (L2.cJ (My.top 26)) (L2.au (My.top 26)) .none kV doc pm an cdv ct,fun s u=>.of_eq rfl,fun base kb nb=>?_⟩;have mR:mg "sum"=none:=by
   refine' L2.qr KX G ?a
   (case a=>k_is)
  have mM:=My.rZ (P:=My.Pg) (w:=w) (base:=base) (K:=L2.KOf KX) B (by trivial);have du:=My.ju (P:=My.Pg) (w:=w) (base:=base) (K:=L2.KOf KX) B (by trivial);have fK:=My.nu (P:=My.Pg) (w:=w) (base:=base) (K:=L2.KOf KX) B (by trivial);have bM:=My.kY (P:=My.Pg) (w:=w) (base:=base) (K:=L2.KOf KX) B (by trivial);have bA:=My.gV (P:=My.Pg) (w:=w) (base:=base) (K:=L2.KOf KX) B (by trivial);have cF:=My.jo (P:=My.Pg) (w:=w) (base:=base) (K:=L2.KOf KX) B (by trivial);have cq:=My.j8 (P:=My.Pg) (w:=w) (base:=base) (K:=L2.KOf KX) B (by trivial);have dj:=My.jq (P:=My.Pg) (w:=w) (base:=base) (K:=L2.KOf KX) B (by trivial);have bo:=My.kZ (P:=My.Pg) (w:=w) (base:=base) (K:=L2.KOf KX) B (by trivial);have dX:=My.j7 (P:=My.Pg) (w:=w) (base:=base) (K:=L2.KOf KX) B (by trivial);have dY:=My.j9 (P:=My.Pg) (w:=w) (base:=base) (K:=L2.KOf KX) B (by trivial);have fL:=My.nv B mM (by trivial);have cC:=My.gT B du fK (by trivial);have bQ:=My.gU B bM (by trivial);have cN:=My.iB B bM (by trivial);have cM:=My.iA B cq dj (by trivial);have dr:=My.jt B bo dX (by trivial);have dq:=My.jr B cF (by trivial);have gz:=My.oH B fL cC (by trivial);have cK:=My.ix B bQ (by trivial);have cL:=My.iy B bo dr (by trivial);have bh:=My.fI B dq (by trivial);have eS:=My.oI B cN gz cK (by trivial);exact My.rY B mR bA bo dY cM cL bh eS F
 case S=>exact fun K H a ns hl hO hS=>⟨a,ns,rfl,hS,hl,fun _=>rfl⟩
 case C=>exact fun _ _ _ _ h=>h
#print axioms PySem.Challenge.cw_landroll_k19_whole_rings_of_pieces_holds
