import PyProof.Rows.All
import Wide.All
import OpenK.AllK
import Wide.FinOn
import Lean
import PyProof.EqAt
import PyProof.EqKinds
import PyProof.TupleCall
import PySem.Challenge.RW_landroll_k45_gives
set_option Elab.async false
set_option linter.all false
set_option maxRecDepth 100000
open PySem.W (Frag findIn keepIn mroIn kitOne fnOf codeIn nsIn)
section
open PySem PySem.Spec PyProof.Rows PyProof PySem.W PySem.Calls PySem.Builtin PySem.F
def FY:=@List.length_map
def FZ:=@wpAny_bind
def F0:=@Heap.get?_push_of_some
def F1:=@List.mem_cons_of_mem
def F2:=@List.mem_singleton
def F3:=@wpAny_pure
def F4:=@Nat.le_refl
def F5:=@Nat.lt_of_lt_of_le
def F6:=@if_neg
def F7:=@List.mem_cons_self
def F8:=@if_pos
def F9:=@List.map_cons
def Ga:=@List.size_toArray
def Gb:=@List.mem_of_getElem?
def Gd:=@List.length_append
def Ge:=@List.mem_map
def Gf:=@Heap.lt_size
def Gg:=@List.mem_cons
def Gh:=@List.getElem?_eq_getElem
def Gi:=@Paired.length
def Gj:=@List.mem_append
def Gk:=@List.map_append
def Gm:=@Heap.get?_push_size
def Gn:=@List.getElem?_map
def Gp:=@decide_eq_true
def Gq:=@Nat.le_of_ble_eq_true
def Gr:=@List.getElem?_eq_some_iff
def Gs:=@List.length_cons
def Gu:=@of_decide_eq_true
def Gv:=@Bool.false_ne_true
def Gw:=@decide_eq_false
def Gx:=@List.mem_append_right
def Gy:=@wpAny_mono
def Gz:=@Nat.ne_of_lt
def GA:=@Nat.le_trans
def GB:=@Option.some.inj
def GC:=@List.mem_append_left
def GF:=@List.append_nil
def GG:=@Nat.succ.inj
def GH:=@PassesOwn.never
def GI:=@List.take_add_one
def GJ:=@List.find?_cons
def GK:=@List.take_length
def GL:=@PySem.F.plainAttrs_list
def GN:=@List.mem_range
def GO:=@Nat.zero_le
def GP:=@Int.emod_nonneg
def GQ:=@wpS_bind
def GR:=@decide_eq_true_eq
def GU:=@PySem.W.mg_none_of
def GV:=@Int.emod_lt_of_pos
def GW:=@Heap.get?_update_other
def GX:=@Option.toList_some
def GY:=@Nat.pow_le_pow_right
def GZ:=@Bool.and_eq_true_iff
def G0:=@List.length_take
def G1:=@PySem.F.type_list_append
def G2:=@PySem.F.slot_list_append
def G3:=@Heap.get?_update_self
def G4:=@wpAny_loadPart_at
def G5:=@Decidable.byContradiction
def G6:=@beq_eq_false_iff_ne
def G7:=@List.length_singleton
def G8:=@Bool.and_eq_true
def G9:=@wpAny_holding
def Ha:=@List.length_range
def Hb:=@Int.toNat_natCast
def Hd:=@List.exists_cons_of_length_eq_add_one
def He:=@Int.le_of_lt
def Hf:=@PySem.W.kia_one
def Hg:=@Ne.symm
def Hh:=@List.nodup_cons
def Hi:=@wpS_pure
def Hj:=@Array.length_toList
def Hk:=@List.length_filter_le
def Hl:=@Array.getElem?_toList
def Hm:=@sizeLine_eq
def Hn:=@List.find?_eq_none
def Ho:=@List.filter_append
def Hq:=@Bool.false_eq_true
def Hr:=@List.any_eq_true
def Hs:=@eq_false_of_ne_true
def Ht:=@PySem.boot_len
def Hu:=@Nat.testBit_and
def Hv:=@List.getElem_mem
def Hw:=@List.any_cons
def Hx:=@PySem.mem_of_lookup
def Hy:=@List.mem_filter
def Hz:=@Bool.eq_iff_iff
def HC:=@beq_iff_eq
def HD:=@PySem.W.mg_of
def HE:=@Nat.zero_add
def HF:=@Nat.lt_irrefl
def HG:=@List.map_singleton
def HH:=@List.map_nil
def HI:=@List.pairwise_iff_getElem
def HJ:=@Int.mul_pos
def HK:=@Int.le_refl
def HL:=@PySem.W.hideAll_none
def HM:=@List.getElem?_set_ne
end
namespace L2
theorem ep3{α β:Type}{A B C:α->β->Prop}{g:Prop}(h:∃x y,A x y/\B x y/\C x y)(k:∀x y,A x y->B x y->C x y->g):g:=by obtain⟨x,y,a,b,c⟩:=h;exact k x y a b c
end L2
namespace L2
open PySem PySem.Spec PyProof.Rows
noncomputable abbrev Key:=Sum Int Str
noncomputable def qi:Key->Value->Bool
 | .inl k,v=>Value.isInt k v
 | .inr x,v=>Value.isStrOf x v
noncomputable def FP(w:World):Key->Int
 | .inl k=>hashInt k
 | .inr x=>hashStr w x
theorem bQ:∀{k:Key}{v:Value},qi k v=true->(∃i t,k=Sum.inl i/\v=Value.int i t)\/(∃x t,k=Sum.inr x/\v=Value.str x t)
 | .inl i,v,h=>by obtain⟨t,e⟩:=Value.isInt_shape (k:=i) (v:=v) h;exact .inl ⟨i,t,rfl,e⟩
 | .inr x,v,h=>by obtain⟨t,e⟩:=Value.isStrOf_shape (x:=x) (v:=v) h;exact .inr ⟨x,t,rfl,e⟩
theorem yz(i:Int)(t:Tok):qi (.inl i) (.int i t)=true:=by simp[qi,Value.isInt]
theorem yy(x:Str)(t:Tok):qi (.inr x) (.str x t)=true:=by simp[qi,Value.isStrOf]
theorem DP(a b:Int):decide ((Sum.inl a:Key)=Sum.inl b)=(a==b):=by
 by_cases e:a=b
 ·subst e;simp
 ·have h:¬(Sum.inl a:Key)=Sum.inl b:=fun q=>e (Sum.inl.inj q);rw[Gw h];exact(G6.mpr e).symm
theorem Ar(a b:Str):decide ((Sum.inr a:Key)=Sum.inr b)=decide (a=b):=by
 by_cases e:a=b
 ·subst e;simp
 ·have h:¬(Sum.inr a:Key)=Sum.inr b:=fun q=>e (Sum.inr.inj q);rw[Gw h,Gw e]
theorem DO(a:Int)(b:Str):decide ((Sum.inl a:Key)=Sum.inr b)=false:=Gw (fun q=>nomatch q)
theorem DN(a:Str)(b:Int):decide ((Sum.inr a:Key)=Sum.inl b)=false:=Gw (fun q=>nomatch q)
noncomputable def ba(prog:Program)(w:World):PySem.KeyKind prog w Key where
 is:=qi
 hash:=FP w
 inj:=fun v a b ha hb=>by
  rcases bQ ha with⟨i,t,rfl,rfl⟩|⟨x,t,rfl,rfl⟩
  ·rcases bQ hb with⟨j,u,rfl,e⟩|⟨y,u,rfl,e⟩
   ·injection e with e1 _;rw[e1]
   ·exact nomatch e
  ·rcases bQ hb with⟨j,u,rfl,e⟩|⟨y,u,rfl,e⟩
   ·exact nomatch e
   ·injection e with e1 _;rw[e1]
 byValue:=fun k v h=>by
  rcases bQ h with⟨i,t,rfl,rfl⟩|⟨x,t,rfl,rfl⟩<;>rfl
 pyHash:=fun hv h=>by
  rcases bQ hv with⟨i,t,rfl,rfl⟩|⟨x,t,rfl,rfl⟩
  ·exact wpAny_pyHash_int h
  ·exact wpAny_pyHash_str h
 eqBool:=fun hu hv h=>by
  rcases bQ hu with⟨i,t,rfl,rfl⟩|⟨x,t,rfl,rfl⟩
  ·rcases bQ hv with⟨j,u,rfl,rfl⟩|⟨y,u,rfl,rfl⟩
   ·rw[DP]at h;exact wpAny_eqBool_int h
   ·rw[DO]at h;exact SeqAt.EqAt.int_str i t y u _ _ _ _ h
  ·rcases bQ hv with⟨j,u,rfl,rfl⟩|⟨y,u,rfl,rfl⟩
   ·rw[DN]at h;exact SeqAt.EqAt.str_int x t j u _ _ _ _ h
   ·rw[Ar]at h;exact wpAny_eqBool_str h
 «strs»:=fun k x t v h=>by
  rcases bQ h with⟨i,u,rfl,e⟩|⟨y,u,rfl,e⟩
  ·exact nomatch e
  ·injection e with e1 _
   subst e1
   cases v<;>rfl
theorem ve(prog:Program)(w:World)(i:Int)(t:Tok):(ba prog w).is (.inl i) (.int i t)=true:=yz i t
theorem vc(prog:Program)(w:World)(x:Str)(t:Tok):(ba prog w).is (.inr x) (.str x t)=true:=yy x t
inductive V where
 |non|bl (b:Bool)|int (i:Int)|str (x:Str)|byt (b:Array UInt8)|flt (b:UInt64)|ref (a:Addr)|ty (n:String)
 deriving DecidableEq
noncomputable def RelV:V->Value->Prop
 | .non,u=>u=Value.none
 | .bl b,u=>u=Value.bool b
 | .int i,u=>∃t,u=Value.int i t
 | .str x,u=>∃t,u=Value.str x t
 | .byt b,u=>∃t,u=Value.bytes b t
 | .flt b,u=>∃t,u=Value.float b t
 | .ref a,u=>u=Value.ref a
 | .ty n,u=>u=Value.type n
abbrev Vals:List V->List Value->Prop:=Paired RelV
theorem Vals.length{xs:List V}{us:List Value}(r:Vals xs us):xs.length=us.length:=Gi r
theorem Vals.get:∀{xs:List V}{us:List Value}{i:Nat}{x:V},Vals xs us->xs[i]?=some x->∃u,us[i]?=some u/\RelV x u
 |_,_,_,_,.nil,e=>by simp at e
 |_,_,0,_,.cons r _,e=>by simp at e;subst e;exact⟨_,rfl,r⟩
 |_,_,i+1,x,.cons _ t,e=>by obtain⟨u,h1,h2⟩:=Vals.get (i:=i) (x:=x) t (by simpa using e);exact⟨u,by simpa using h1,h2⟩
theorem Vals.set{x:V}{u:Value}(r:RelV x u):∀{xs:List V}{us:List Value}(i:Nat),Vals xs us->Vals (xs.set i x) (us.set i u)
 |_,_,_,.nil=>.nil
 |_,_,0,.cons _ t=>.cons r t
 |_,_,i+1,.cons q t=>.cons q (Vals.set r i t)
theorem Vals.append{xs ys:List V}{us ws:List Value}(hI:Vals xs us):Vals ys ws->Vals (xs++ys) (us++ws):=by
 induction hI with
 |nil=>exact fun s=>s
 |cons r t ih=>exact fun s=>.cons r (ih s)
theorem Vals.take:∀{xs:List V}{us:List Value}(n:Nat),Vals xs us->Vals (xs.take n) (us.take n)
 |_,_,0,_=>.nil
 |_,_,_+1,.nil=>.nil
 |_,_,n+1,.cons r t=>.cons r (Vals.take n t)
theorem Vals.drop:∀{xs:List V}{us:List Value}(n:Nat),Vals xs us->Vals (xs.drop n) (us.drop n)
 |_,_,0,r=>r
 |_,_,_+1,.nil=>.nil
 |_,_,n+1,.cons _ t=>Vals.drop n t
noncomputable def gY:Option V->Option Value->Prop
 |some v,some u=>RelV v u
 |none,none=>True
 |_,_=>False
def KV{κ:Type}:List (κ×V)->List (κ×Value)->Prop:=Paired fun(p:κ×V) (q:κ×Value)=>p.1=q.1/\RelV p.2 q.2
noncomputable def kV:Key->V
 | .inl i=>.int i
 | .inr x=>.str x
inductive HO where
 |lst (xs:List V)
 |tup (xs:List V)
 |dK (kvs:List (Key×V))|dT (kvs:List (List Key×V))
 |set (S:Int->Bool) (n:Nat)
 |ins (C dx:Addr) (fs:List (Str×V))
 |own (x:Addr)
 |xd (fs:List (Str×V))
 |met (f x:Addr)
 |rng (lo hi:Int)
 |frz (o:Obj) (u:HO)
 |tbl (ps:Array Value)
 |ext (φ:Heap->Prop)
noncomputable abbrev Hp:=Addr->Option HO
noncomputable def upd(H:Hp)(a:Addr)(o:HO):Hp:=fun b=>if b=a then some o else H b
theorem af{H:Hp}{a:Addr}{o:HO}:upd H a o a=some o:=by unfold upd;rw[F8 rfl]
theorem az{H:Hp}{a b:Addr}{o:HO}(h:b≠a):upd H a o b=H b:=by unfold upd;rw[F6 h]
theorem bq{H:Hp}{a:Addr}{o u:HO}:upd (upd H a o) a u=upd H a u:=by funext b;unfold upd;split<;>rfl
theorem hW{H:Hp}{a b:Addr}{o u:HO}(h:H a=some o)(h':H b=some u)(d:o≠u):a≠b:=by intro e;subst e;rw[h]at h';exact d (GB h')
theorem dQ{H:Hp}{a b:Addr}{o:HO}(h:H a=some o)(h':H b=none):a≠b:=by intro e;subst e;rw[h]at h';cases h'
section
variable(P:Program)(w:World)
noncomputable def bN(H:Hp)(h:Heap)(a:Addr):HO->Prop
 | .lst xs=>xs.length<=sizeLine/\∃(its:List Value)(n:Nat),Vals xs its/\h.get? a=some {cls:=.type "list",data:=.seq its.toArray n}
 | .tup xs=>xs.length<=sizeLine/\∃its:List Value,Vals xs its/\IsTup h a its.toArray
 | .dK kvs=>kvs.length<=sizeLine/\(a==sysModules)=false/\∃vs,KV kvs vs/\h.DictOf (ba P w) a vs
 | .dT kvs=>kvs.length<=sizeLine/\(a==sysModules)=false/\∃xs:List (List Key×Addr×Value),
  Paired (fun(p:List Key×V) (q:List Key×Addr×Value)=>p.1=q.1/\H q.2.1=some (.tup (p.1.map kV))/\RelV p.2 q.2.2) kvs xs/\
  ∃o es ep,h.get? a=some o/\o.ExactDict/\o.data=.dict es ep/\es.toList=xs.map (entryOfKey (tupleKind (ba P w)))/\(xs.map (·.1)).Nodup
 | .set S n=>h.SetOf (intKind P w) a S n
 | .ins C dx fs=>H dx=some (.own a)/\fs.length<=1000/\dx≠a/\h.get? a=some (PySem.W.instObj C dx)/\
  ∃mA,h.Ns1 dx mA/\(∀f,gY (fs.lookup f) (mA f))/\PySem.Within mA (fs.map (·.1))
 | .own _=>∃o,h.get? a=some o
 | .xd fs=>∃mA,h.Ns1 a mA/\∀f,gY (fs.lookup f) (mA f)
 | .rng lo hi=>∃t u v,h.get? a=some {cls:=.type "range",data:=.fields #[.int lo t,.int hi u,.int 1 v]}
 | .frz o u=>h.get? a=some o/\bN H h a u
 | .tbl ps=>h.get? a=some {cls:=.none,data:=.fields ps}
 | .met f x=>h.get? a=some (PySem.W.methodObj (.ref f) (.ref x))
 | .ext φ=>φ h/\(∃o,h.get? a=some o)/\∀h1 h2:Heap,φ h1->(∀o,h1.get? a=some o->h2.get? a=some o)->φ h2
def HOk(H:Hp)(h:Heap):Prop:=∀a o,H a=some o->bN P w H h a o
end
section
variable{P:Program}{w:World}{H H':Hp}{h h':Heap}{a:Addr}{o:HO}
theorem bN.lt(x:bN P w H h a o):a<h.objs.size:=by
 cases o with
 |lst xs=>obtain⟨_,_,_,_,e⟩:=x;exact Gf e
 |tup xs=>obtain⟨_,_,_,p⟩:=x;exact p.lt
 |dK kvs=>obtain⟨_,_,_,_,o,_,_,e,_⟩:=x;exact Gf e
 |dT kvs=>obtain⟨_,_,_,_,o,_,_,e,_⟩:=x;exact Gf e
 |set S n=>obtain⟨o,_,_,_,e,_⟩:=x;exact Gf e
 |ins C dx fs=>obtain⟨_,_,_,e,_⟩:=x;exact Gf e
 |own y=>obtain⟨_,e⟩:=x;exact Gf e
 |xd fs=>obtain⟨_,⟨_,_,_,e,_⟩,_⟩:=x;exact Gf e
 |rng lo hi=>obtain⟨_,_,_,e⟩:=x;exact Gf e
 |frz ob u=>obtain⟨e,_⟩:=x;exact Gf e
 |tbl ps=>exact Gf (show h.get? a=some _ from x)
 |met f y=>exact Gf (show h.get? a=some _ from x)
 |ext φ=>obtain⟨_,⟨_,e⟩,_⟩:=x;exact Gf e
theorem Paired.mapP{α β:Type}{F G:α->β->Prop}{l₁:List α}{l₂:List β}(hI:Paired F l₁ l₂):(∀a b,F a b->G a b)->Paired G l₁ l₂:=by
 induction hI with
 |nil=>exact fun _=>.nil
 |cons r t ih=>exact fun f=>.cons (f _ _ r) (ih f)
theorem bN.stay(x:bN P w H h a o)(k:∀b u,(b=a\/H b=some (.own a))->h.get? b=some u->h'.get? b=some u)
  (ho:∀b,H b=some (.own a)->H' b=some (.own a)) (ht:∀b xs,H b=some (.tup xs)->H' b=some (.tup xs)):bN P w H' h' a o:=by
 induction o with
 |lst xs=>obtain⟨z,its,n,r,e⟩:=x;exact⟨z,its,n,r,k _ _ (.inl rfl) e⟩
 |tup xs=>obtain⟨z,its,r,ob,e,c⟩:=x;exact⟨z,its,r,ob,k _ _ (.inl rfl) e,c⟩
 |dK kvs=>obtain⟨z,y,vs,r,ob,es,ep,e,c⟩:=x;exact⟨z,y,vs,r,ob,es,ep,k _ _ (.inl rfl) e,c⟩
 |dT kvs=>obtain⟨z,y,xs,r,ob,es,ep,e,c⟩:=x;exact⟨z,y,xs,Paired.mapP r fun p q z=>⟨z.1,ht _ _ z.2.1,z.2.2⟩,ob,es,ep,k _ _ (.inl rfl) e,c⟩
 |set S n=>obtain⟨ob,es,ep,t,e,c⟩:=x;exact⟨ob,es,ep,t,k _ _ (.inl rfl) e,c⟩
 |ins C dx fs=>obtain⟨d,z,ne,e,mA,⟨od,es,ep,e2,c⟩,r⟩:=x;exact⟨ho _ d,z,ne,k _ _ (.inl rfl) e,mA,⟨od,es,ep,k _ _ (.inr d) e2,c⟩,r⟩
 |own y=>obtain⟨ob,e⟩:=x;exact⟨ob,k _ _ (.inl rfl) e⟩
 |xd fs=>obtain⟨mA,⟨od,es,ep,e,c⟩,r⟩:=x;exact⟨mA,⟨od,es,ep,k _ _ (.inl rfl) e,c⟩,r⟩
 |rng lo hi=>obtain⟨t,u,v,e⟩:=x;exact⟨t,u,v,k _ _ (.inl rfl) e⟩
 |frz ob u ih=>obtain⟨e,q⟩:=x;exact⟨k _ _ (.inl rfl) e,ih q⟩
 |tbl ps=>have e:h.get? a=some {cls:=.none,data:=.fields ps}:=x;show h'.get? a=some {cls:=.none,data:=.fields ps};exact k a _ (.inl rfl) e
 |met f y=>have e:h.get? a=some (PySem.W.methodObj (.ref f) (.ref y)):=x;show h'.get? a=some (PySem.W.methodObj (.ref f) (.ref y));exact k a _ (.inl rfl) e
 |ext φ=>obtain⟨p,⟨o,e⟩,st⟩:=x;exact⟨st _ _ p fun o q=>k _ _ (.inl rfl) q,⟨o,k _ _ (.inl rfl) e⟩,st⟩
theorem HOk.lt(x:HOk P w H h)(e:H a=some o):a<h.objs.size:=(x a o e).lt
theorem HOk.fresh(x:HOk P w H h)(e:h.objs.size<=a):H a=none:=by
 cases q:H a with
 |none=>rfl
 |some u=>exact absurd (F5 (x.lt q) e) (HF _)
theorem HOk.kept(x:HOk P w H h)(k:∀b u,h.get? b=some u->h'.get? b=some u):HOk P w H h':=fun a o e=>(x a o e).stay (fun b u _ q=>k b u q) (fun _ q=>q) fun _ _ q=>q
theorem HOk.laid(x:HOk P w H h)(k:∀b u,h.get? b=some u->h'.get? b=some u)(hp:h.objs.size<=a)(new:bN P w (upd H a o) h' a o):HOk P w (upd H a o) h':=fun b u e=>by
 have hn:=x.fresh hp;by_cases hb:b=a
 ·subst hb;rw[af]at e;cases e;exact new
 ·rw[az hb]at e;exact(x b u e).stay (fun c v _ q=>k c v q) (fun c q=>by rw[az (dQ q hn)];exact q) fun c xs q=>by rw[az (dQ q hn)];exact q
end
def Rd(H:Hp)(a:Addr)(u:HO):Prop:=H a=some u\/∃o,H a=some (.frz o u)
theorem Rd.ok{P:Program}{w:World}{H:Hp}{h:Heap}{a:Addr}{u:HO}(r:Rd H a u)(x:HOk P w H h):bN P w H h a u:=by
 rcases r with r|⟨o,r⟩
 ·exact x a u r
 ·obtain⟨_,q⟩:=x a _ r;exact q
noncomputable def Mut:Option HO->Prop
 |some (.lst _)=>True
 |some (.dK _)=>True
 |some (.dT _)=>True
 |some (.set _ _)=>True
 |some (.ins _ _ _)=>True
 |some (.ext _)=>True
 |_=>False
section
variable{P:Program}{w:World}{H:Hp}{h h':Heap}{x e:Addr}{o':HO}
theorem HOk.write(ok:HOk P w H h)(mu:Mut (H x))(he:e=x\/H e=some (.own x))(k:∀b u,b≠e->h.get? b=some u->h'.get? b=some u)(heo:∃u,h'.get? e=some u)
  (new:bN P w (upd H x o') h' x o'):HOk P w (upd H x o') h':=fun b u q=>by
 have nown:∀c y,H c=some (.own y)->c≠x:=fun c y r z=>by subst z;rw[r]at mu;exact mu
 have ntup:∀c xs,H c=some (.tup xs)->c≠x:=fun c xs r z=>by subst z;rw[r]at mu;exact mu
 by_cases hb:b=x
 ·subst hb;rw[af]at q;cases q;exact new
 ·rw[az hb]at q;by_cases hbe:b=e
  ·have q':H b=some (.own x):=by
    rcases he with z|z
    ·exact absurd (hbe.trans z) hb
    ·rw[hbe];exact z
   rw[q]at q';cases q';obtain⟨v,hv⟩:=heo;exact⟨v,by rw[hbe];exact hv⟩
  ·refine(ok b u q).stay (fun c v hc r=>k c v ?_ r) (fun c r=>by rw[az (nown c b r)];exact r) fun c xs r=>by rw[az (ntup c xs r)];exact r
   rcases hc with rfl|hc
   ·exact hbe
   ·rintro rfl;rcases he with z|z
    ·exact nown c b hc z
    ·rw[hc]at z;cases z;exact hb rfl
end
structure Un(fs ex:List Addr)(H H':Hp)(h h':Heap):Prop where
 keep:∀b o,h.get? b=some o->H b=none->b∉fs->b∉ex->h'.get? b=some o
 slot:∀b o,h.get? b=some o->H b=none->b∈fs->b∉ex->∃sl,h'.get? b=some {o with slots:=sl}
 free:∀b o,h.get? b=some o->H b=none->b∉ex->H' b=none
 there:∀b o,h.get? b=some o->b∉ex->∃o',h'.get? b=some o'
 tups:∀b xs,H b=some (.tup xs)->H' b=some (.tup xs)
 frzs:∀b o u,H b=some (.frz o u)->H' b=some (.frz o u)
 tbls:∀b ps,H b=some (.tbl ps)->∃more,H' b=some (.tbl (ps++more))
section
variable{fs fs' ex ex':List Addr}{H H1 H2:Hp}{h h1 h2 h':Heap}{a x e:Addr}{o:HO}
theorem Un.any(u:Un fs ex H H1 h h1){b:Addr}{ob:Obj}(q:h.get? b=some ob)(n:H b=none)(hx:b∉ex):∃sl,h1.get? b=some {ob with slots:=sl}:=by
 by_cases hb:b∈fs
 ·exact u.slot b ob q n hb hx
 ·exact⟨ob.slots,u.keep b ob q n hb hx⟩
theorem Un.kept(k:∀b u,h.get? b=some u->h'.get? b=some u):Un fs ex H H h h':=
 ⟨fun b ob q _ _ _=>k b ob q,fun b ob q _ _ _=>⟨ob.slots,k b ob q⟩,fun _ _ _ n _=>n,fun b ob q _=>⟨ob,k b ob q⟩,fun _ _ q=>q,fun _ _ _ q=>q,fun _ ps q=>⟨#[],by rw[q];simp⟩⟩
theorem Un.refl:Un fs ex H H h h:=Un.kept fun _ _ q=>q
theorem Un.laid(k:∀b u,h.get? b=some u->h'.get? b=some u)(hp:h.objs.size<=a)(hn:H a=none):Un fs ex H (upd H a o) h h' where
 keep:=fun b u q _ _ _=>k b u q
 slot:=fun b u q _ _ _=>⟨u.slots,k b u q⟩
 free:=fun b u q n _=>by rw[az (Gz (F5 (Gf q) hp))];exact n
 there:=fun b u q _=>⟨u,k b u q⟩
 tups:=fun b xs q=>by rw[az (dQ q hn)];exact q
 frzs:=fun b u xs q=>by rw[az (dQ q hn)];exact q
 tbls:=fun b ps q=>⟨#[],by rw[az (dQ q hn),q];simp⟩
theorem Un.write(mu:Mut (H x))(he:e=x\/H e=some (.own x))(k:∀b u,b≠e->h.get? b=some u->h'.get? b=some u)(heo:∃u,h'.get? e=some u):Un fs ex H (upd H x o) h h':=by
 have hx:∀b,H b=none->b≠x:=fun b n z=>by subst z;rw[n]at mu;exact mu
 have hb:∀b,H b=none->b≠e:=fun b n z=>by
  subst z;rcases he with r|r
  ·exact hx b n r
  ·rw[n]at r;cases r
 have hm:∀b u,H b=some u->¬Mut (some u)->b≠x:=fun b u q nm z=>by subst z;rw[q]at mu;exact nm mu
 refine⟨fun b u q n _ _=>k b u (hb b n) q,fun b u q n _ _=>⟨u.slots,k b u (hb b n) q⟩,fun b u q n _=>by rw[az (hx b n)];exact n,fun b u q _=>?_,
  fun b xs q=>by rw[az (hm b _ q fun z=>z)];exact q,fun b u xs q=>by rw[az (hm b _ q fun z=>z)];exact q,fun b ps q=>⟨#[],by rw[az (hm b _ q fun z=>z),q];simp⟩⟩
 by_cases hbe:b=e
 ·subst hbe;exact heo
 ·exact⟨u,k b u hbe q⟩
end
noncomputable def trk(h:Heap)(H:Hp):List Addr:=(List.range h.objs.size).filter fun a=>(H a).isSome
noncomputable def ua(h:Heap)(H:Hp):Heap:=PySem.W.hideAll h (trk h H)
theorem yG(h:Heap)(H:Hp):(ua h H).objs.size=h.objs.size:=PySem.W.hideAll_size _ _
theorem Ay{h:Heap}{H:Hp}{b:Addr}{o:Obj}(e:h.get? b=some o)(n:H b=none):(ua h H).get? b=some o:=
 PySem.W.hideAll_get _ e fun hm=>by have q:(H b).isSome=true:=(Hy.mp hm).2;rw[n]at q;simp at q
theorem BP{h:Heap}{H:Hp}{b:Addr}{o:Obj}(e:(ua h H).get? b=some o):h.get? b=some o/\H b=none:=by
 have e':h.get? b=some o:=PySem.W.of_hideAll (trk h H) e;refine⟨e',?_⟩;cases q:H b with
 |none=>rfl
 |some x=>have hm:b∈trk h H:=Hy.mpr ⟨GN.mpr (Gf e'),by simp[q]⟩;have z:(ua h H).get? b=none:=HL (trk h H) hm;rw[z]at e;cases e
structure Mod(K:Frag)(mg:Str->Option Value)(base:Heap):Prop where
 kin:K.In base
 glob:base.Ns mainGlobals mg
 blt:∃mb,base.Ns builtinsNs mb/\∀x:Str,x≠"__name__"->mb x=bootBuiltins x
 nolimit:base.NoLimit
structure Cx where
 prog:Program
 w:World
 K:Frag
 mg:Str->Option Value
 base:Heap
 A:Around
 N:List Str
 s₀:Shared
 H₀:Hp
 env:Env
 outer:List Env
 stack:List Env
 ex:List Addr
 fn:Str->Bool
 calm:Bool
 pn:List (Addr×Obj)
 xe:Value->Shared->Prop
noncomputable def frs(l:List Env):List Addr:=l.filterMap (·.frame)
noncomputable abbrev Cx.fs(X:Cx):List Addr:=frs X.outer
def Vis(sc:Scope)(x:Str):Prop:=sc.names.lookup x=some .local\/sc.names.lookup x=some .cell\/sc.names.lookup x=some .free
def Loc(sc:Scope)(x:Str):Prop:=sc.names.lookup x=some .local\/sc.names.lookup x=some .cell
def Look(env:Env)(h:Heap)(m:Str->Option Value)(x:Str)(u:Value):Prop:=
 (env.kindOf x=some .local/\m x=some u)\/((env.kindOf x=some .cell\/env.kindOf x=some .free)/\∃c,env.cells.lookup x=some c/\h.IsCell c (some u))
structure Cx.Ok(X:Cx):Prop where
 mod:Mod X.K X.mg X.base
 kind:X.env.scope.kind=.function
 glob:X.env.globals=mainGlobals
 blt:X.env.builtins=builtinsNs
 above:X.s₀.heap.objs.size<=X.env.locals
 inj:∀x y c,X.env.cells.lookup x=some c->X.env.cells.lookup y=some c->x=y
 has:∀x,(X.env.kindOf x=some .cell\/X.env.kindOf x=some .free)->∃c,X.env.cells.lookup x=some c
 cab:∀x c,X.fn x=true->X.env.cells.lookup x=some c->X.s₀.heap.objs.size<=c
 hd:X.calm=true->X.A.handled=none
 frames:X.A.frames=some X.stack
 stk:X.stack=X.outer\/(X.stack=X.env::X.outer/\X.env.frame=some X.env.locals)
 exf:∀b∈X.ex,b≠X.env.locals/\∀x c,X.env.cells.lookup x=some c->c≠b
 bs:∀b o,X.base.get? b=some o->X.s₀.heap.get? b=some o/\X.H₀ b=none
 bsz:X.base.objs.size<=X.s₀.heap.objs.size
 noex:∀b o,X.base.get? b=some o->b∉X.ex
 exfs:∀b∈X.ex,b∉X.fs
 funs:X.s₀.heap.FunFrames X.base X.outer
 frf:∀b∈X.fs,X.H₀ b=none
structure Inv(X:Cx)(pins:List (Addr×Obj))(σ:List (Option V))(H:Hp)(s:Shared):Prop where
 ok:X.Ok
 os:s.os=X.s₀.os
 bare:AllBare s.gens
 base:Un X.fs X.ex X.H₀ H X.s₀.heap s.heap
 loc:∃m,s.heap.Ns X.env.locals m/\∀(i:Nat)(x:Str)(v:V),X.N[i]?=some x->σ[i]?=some (some v)->Vis X.env.scope x->∃u,RelV v u/\Look X.env s.heap m x u
 cell:∀x c,X.env.cells.lookup x=some c->∃v,s.heap.IsCell c v
 free:H X.env.locals=none
 freeC:∀x c,X.env.cells.lookup x=some c->H c=none
 pin:∀p∈X.pn++pins,s.heap.get? p.1=some p.2/\H p.1=none/\p.1≠X.env.locals/\p.1∉X.fs/\∀v,p.2.data≠ .cell v
 hok:HOk X.prog X.w H s.heap
 len:σ.length=X.N.length
section
variable{X:Cx}{pins:List (Addr×Obj)}{σ:List (Option V)}{H H':Hp}{s:Shared}{h':Heap}
theorem Cx.Ok.nofr(ok:X.Ok){b:Addr}{o:Obj}(e:X.base.get? b=some o):b∉X.fs:=fun hb=>by have:=(ok.funs.mem hb).1;rw[e]at this;cases this
theorem Inv.bs(I:Inv X pins σ H s):∀b o,X.base.get? b=some o->s.heap.get? b=some o/\H b=none:=fun b o e=>⟨I.base.keep b o (I.ok.bs b o e).1 (I.ok.bs b o e).2 (I.ok.nofr e) (I.ok.noex b o e),I.base.free b o (I.ok.bs b o e).1 (I.ok.bs b o e).2 (I.ok.noex b o e)⟩
theorem Inv.bk(I:Inv X pins σ H s):∀b o,X.base.get? b=some o->s.heap.get? b=some o:=fun b o e=>(I.bs b o e).1
theorem Inv.mod(I:Inv X pins σ H s):Mod X.K X.mg X.base:=I.ok.mod
theorem Inv.kIn(I:Inv X pins σ H s):X.K.In s.heap:=I.ok.mod.kin.keeps I.bk
theorem Inv.lt(I:Inv X pins σ H s):X.env.locals<s.heap.objs.size:=let ⟨_,hn,_⟩:=I.loc;hn.lt
theorem Inv.sz(I:Inv X pins σ H s):X.s₀.heap.objs.size<=s.heap.objs.size:=GA I.ok.above (Nat.le_of_lt I.lt)
theorem Inv.nofs(I:Inv X pins σ H s){a:Addr}(h:s.heap.objs.size<=a):a∉X.fs:=fun hb=>by obtain⟨_,o,ho,_⟩:=I.ok.funs.mem hb;exact absurd (F5 (Gf ho) (GA I.sz h)) (HF _)
theorem Inv.cne(I:Inv X pins σ H s):∀x c,X.env.cells.lookup x=some c->c≠X.env.locals:=fun x c e z=>by obtain⟨v,o,ho,hd⟩:=I.cell x c e;obtain⟨m,⟨o',es,ep,ho',hd',_⟩,_⟩:=I.loc;rw[z,ho']at ho;cases ho;rw[hd']at hd;cases hd
theorem Inv.funs(I:Inv X pins σ H s):s.heap.FunFrames X.base X.outer:=by
 have all:∀(l:List Env),(∀b∈frs l,b∈X.fs)->X.s₀.heap.FunFrames X.base l->s.heap.FunFrames X.base l:=by
  intro l
  induction l with
  |nil=>intro _ _;trivial
  |cons env r ih=>intro hs hl;obtain⟨hk,⟨L,o,hf,hn,ho,hd⟩,hr⟩:=hl;have hL:L∈X.fs:=hs L (by unfold frs;rw[List.filterMap_cons,hf];exact F7);obtain⟨sl,e⟩:=I.base.slot L o ho (I.ok.frf L hL) hL fun z=>I.ok.exfs L z hL;exact⟨hk,⟨L,_,hf,hn,e,hd⟩,ih (fun b hb=>hs b (by unfold frs;rw[List.filterMap_cons,hf];exact F1 _ hb)) hr⟩
 exact all X.outer (fun _ hb=>hb) I.ok.funs
theorem Inv.stack(I:Inv X pins σ H s):s.heap.FunFrames X.base X.stack:=by
 rcases I.ok.stk with e|⟨e,hf⟩
 ·rw[e];exact I.funs
 ·rw[e];obtain⟨m,hn,_⟩:=I.loc;refine .cons (by rw[I.ok.kind];decide) hf hn ?_ I.funs;exact Heap.get?_none_of_le (GA I.ok.bsz I.ok.above)
theorem Inv.stkSub(I:Inv X pins σ H s):∀b∈frs X.stack,b∈X.env.locals::X.fs:=fun b hb=>by
 rcases I.ok.stk with e|⟨e,hf⟩
 ·rw[e]at hb;exact F1 _ hb
 ·rw[e]at hb;unfold frs at hb;rw[List.filterMap_cons,hf]at hb;exact hb
theorem Inv.stkFree(I:Inv X pins σ H s):∀b∈frs X.stack,H b=none:=fun b hb=>by
 rcases Gg.mp (I.stkSub b hb)with e|hb
 ·rw[e];exact I.free
 ·obtain⟨_,o,ho,_⟩:=I.ok.funs.mem hb;exact I.base.free b o ho (I.ok.frf b hb) fun z=>I.ok.exfs b z hb
theorem Inv.step{g':Array GenState}{t':Nat}{d':Drawn}{ch:List Addr}(I:Inv X pins σ H s)
  (hch:∀b∈ch,(b∈X.ex\/X.s₀.heap.objs.size<=b)/\b≠X.env.locals/\(∀x c,X.env.cells.lookup x=some c->c≠b)/\∀p∈X.pn++pins,p.1≠b)
  (keep:∀b o,b≠X.env.locals->b∉X.fs->b∉ch->s.heap.get? b=some o->H b=none->h'.get? b=some o)
  (slot:∀b o,b≠X.env.locals->b∈X.fs->b∉ch->s.heap.get? b=some o->H b=none->∃sl,h'.get? b=some {o with slots:=sl}) (free:∀b o,b∉ch->s.heap.get? b=some o->H b=none->H' b=none)
  (there:∀b o,b∉ch->s.heap.get? b=some o->∃o',h'.get? b=some o')
  (tups:∀b xs,H b=some (.tup xs)->H' b=some (.tup xs)) (frzs:∀b o u,H b=some (.frz o u)->H' b=some (.frz o u)) (tbls:∀b ps,H b=some (.tbl ps)->∃more,H' b=some (.tbl (ps++more)))
  (ns:∀m,s.heap.Ns X.env.locals m->h'.Ns X.env.locals m) (hok:HOk X.prog X.w H' h') (hg:AllBare g'):
  Inv X pins σ H' {s with heap:=h',gens:=g',drawn:=d',toks:=t'}:=by
 have neL:∀b o,X.s₀.heap.get? b=some o->b≠X.env.locals:=fun b o e=>Gz (F5 (Gf e) I.ok.above);have neC:∀b o,X.s₀.heap.get? b=some o->b∉X.ex->b∉ch:=fun b o e hx hb=>by
  rcases (hch b hb).1 with z|z
  ·exact hx z
  ·exact absurd (F5 (Gf e) z) (HF _)
 have cellK:∀x c,X.env.cells.lookup x=some c->∀v,s.heap.IsCell c v->h'.IsCell c v:=fun x c e v ⟨o,ho,hd⟩=>by
  have nch:c∉ch:=fun z=>(hch c z).2.2.1 x c e rfl;by_cases hc:c∈X.fs
  ·obtain⟨sl,q⟩:=slot c o (I.cne x c e) hc nch ho (I.freeC x c e);exact⟨_,q,hd⟩
  ·exact⟨o,keep c o (I.cne x c e) hc nch ho (I.freeC x c e),hd⟩
 refine⟨I.ok,I.os,hg,⟨fun b o e n hb hx=>?_,fun b o e n hb hx=>?_,fun b o e n hx=>?_,fun b o e hx=>?_,fun b xs e=>tups b xs (I.base.tups b xs e),fun b o xs e=>frzs b o xs (I.base.frzs b o xs e),fun b ps e=>?_⟩,?_,fun x c e=>?_,?_,fun x c e=>?_,fun p hp=>?_,hok,I.len⟩
 ·exact keep b o (neL b o e) hb (neC b o e hx) (I.base.keep b o e n hb hx) (I.base.free b o e n hx)
 ·obtain⟨sl,e1⟩:=I.base.slot b o e n hb hx;obtain⟨sl',e2⟩:=slot b _ (neL b o e) hb (neC b o e hx) e1 (I.base.free b o e n hx);exact⟨sl',e2⟩
 ·obtain⟨o',e1⟩:=I.base.there b o e hx;exact free b o' (neC b o e hx) e1 (I.base.free b o e n hx)
 ·obtain⟨o',e1⟩:=I.base.there b o e hx;exact there b o' (neC b o e hx) e1
 ·obtain⟨m1,e1⟩:=I.base.tbls b ps e;obtain⟨m2,e2⟩:=tbls b _ e1;exact⟨m1++m2,by rw[e2,Array.append_assoc]⟩
 ·obtain⟨m,hn,hl⟩:=I.loc;refine⟨m,ns m hn,fun i x v e1 e2 e3=>?_⟩;obtain⟨u,r,l⟩:=hl i x v e1 e2 e3;refine⟨u,r,?_⟩;rcases l with l|⟨k,c,e,z⟩
  ·exact .inl l
  ·exact .inr ⟨k,c,e,cellK x c e _ z⟩
 ·obtain⟨v,z⟩:=I.cell x c e;exact⟨v,cellK x c e v z⟩
 ·obtain⟨m,⟨o,_,_,ho,_⟩,_⟩:=I.loc;exact free _ o (fun z=>(hch _ z).2.1 rfl) ho I.free
 ·obtain⟨v,o,ho,hd⟩:=I.cell x c e;exact free c o (fun z=>(hch c z).2.2.1 x c e rfl) ho (I.freeC x c e)
 ·obtain⟨e,n,ne,nf,d⟩:=I.pin p hp;have nch:p.1∉ch:=fun z=>(hch p.1 z).2.2.2 p hp rfl;exact⟨keep p.1 p.2 ne nf nch e n,free p.1 p.2 nch e n,ne,nf,d⟩
theorem Inv.un{t':Nat}(I:Inv X pins σ H s)(u:Un X.fs [] H H' s.heap h')(hok:HOk X.prog X.w H' h'):Inv X pins σ H' {s with heap:=h',toks:=t'}:=by
 obtain⟨m,⟨o,es,ep,ho,r⟩,_⟩:=id I.loc;obtain⟨sl,hL⟩:=u.any ho I.free (by simp)
 exact I.step (g':=s.gens) (d':=s.drawn) (ch:=[]) (fun _ z=>nomatch z) (fun b o _ hb _ e n=>u.keep b o e n hb (by simp)) (fun b o _ hb _ e n=>u.slot b o e n hb (by simp)) (fun b o _ e n=>u.free b o e n (by simp)) (fun b o _ e=>u.there b o e (by simp)) u.tups u.frzs u.tbls (fun m' hm=>by
  obtain⟨o',es',ep',ho',r'⟩:=hm;rw[ho]at ho';cases ho'
  exact⟨_,es',ep',hL,r'⟩) hok I.bare
theorem Inv.call{g':Array GenState}{t':Nat}{d':Drawn}{ch:List Addr}(I:Inv X pins σ H s)(u:Un (frs X.stack) ch H H' s.heap h')(hok:HOk X.prog X.w H' h')(hg:AllBare g')
  (hch:∀b∈ch,(b∈X.ex\/X.s₀.heap.objs.size<=b)/\b≠X.env.locals/\(∀x c,X.env.cells.lookup x=some c->c≠b)/\∀p∈X.pn++pins,p.1≠b):
  Inv X pins σ H' {s with heap:=h',gens:=g',drawn:=d',toks:=t'}:=by
 obtain⟨m,⟨o,es,ep,ho,r⟩,_⟩:=id I.loc;obtain⟨sl,hL⟩:=u.any ho I.free fun z=>(hch _ z).2.1 rfl
 exact I.step (ch:=ch) hch (fun b o hL hb hc e n=>u.keep b o e n (fun z=>(Gg.mp (I.stkSub b z)).elim hL hb) hc) (fun b o _ _ hc e n=>u.any e n hc) (fun b o hc e n=>u.free b o e n hc) (fun b o hc e=>u.there b o e hc) u.tups u.frzs u.tbls (fun m' hm=>by
  obtain⟨o',es',ep',ho',r'⟩:=hm;rw[ho]at ho';cases ho'
  exact⟨_,es',ep',hL,r'⟩) hok hg
theorem Inv.turned{t':Nat}{it:Addr}(I:Inv X pins σ H s)(k:∀b o,b≠it->s.heap.get? b=some o->h'.get? b=some o)(hn:H it=none)(hL:it≠X.env.locals)
  (h1:it∈X.ex\/X.s₀.heap.objs.size<=it) (h2:∀x c,X.env.cells.lookup x=some c->c≠it) (h3:∀p∈X.pn++pins,p.1≠it):Inv X pins σ H {s with heap:=h',toks:=t'}:=by
 have nit:∀b u,H b=some u->b≠it:=fun b u e z=>by rw[z,hn]at e;cases e
 refine I.step (g':=s.gens) (d':=s.drawn) (ch:=[it]) (fun b hb=>?_) (fun b o _ _ hc e _=>k b o (fun z=>hc (by simp[z])) e) (fun b o _ _ hc e _=>⟨o.slots,k b o (fun z=>hc (by simp[z])) e⟩) (fun _ _ _ _ n=>n)
  (fun b o hc e=>⟨o,k b o (fun z=>hc (by simp[z])) e⟩) (fun _ _ e=>e) (fun _ _ _ e=>e) (fun b ps e=>⟨#[],by rw[e];simp⟩) (fun m hm=>?_) (fun b u e=>?_) I.bare
 ·have e:b=it:=by simpa using hb
  subst e;exact⟨h1,hL,h2,h3⟩
 ·obtain⟨o,es,ep,ho,r⟩:=hm;exact⟨o,es,ep,k _ o (Hg hL) ho,r⟩
 ·refine(I.hok b u e).stay (fun c v hc q=>k c v ?_ q) (fun _ q=>q) fun _ _ q=>q;rcases hc with z|z
  ·rw[z];exact nit b u e
  ·exact nit c _ z
theorem Inv.tok(I:Inv X pins σ H s)(t:Nat):Inv X pins σ H {s with toks:=t}:=I.un (h':=s.heap) (t':=t) Un.refl I.hok
theorem Inv.kept{t':Nat}(I:Inv X pins σ H s)(k:∀b u,s.heap.get? b=some u->h'.get? b=some u):Inv X pins σ H {s with heap:=h',toks:=t'}:=I.un (Un.kept k) (I.hok.kept k)
theorem Inv.laid{a:Addr}{o:HO}{t':Nat}(I:Inv X pins σ H s)(k:∀b u,s.heap.get? b=some u->h'.get? b=some u)(hp:s.heap.objs.size<=a)(new:bN X.prog X.w (upd H a o) h' a o):
 Inv X pins σ (upd H a o) {s with heap:=h',toks:=t'}:=I.un (Un.laid k hp (I.hok.fresh hp)) (I.hok.laid k hp new)
theorem Inv.write{x e:Addr}{o:HO}{t':Nat}(I:Inv X pins σ H s)(mu:Mut (H x))(he:e=x\/H e=some (.own x))(k:∀b u,b≠e->s.heap.get? b=some u->h'.get? b=some u)(heo:∃u,h'.get? e=some u)
 (new:bN X.prog X.w (upd H x o) h' x o):Inv X pins σ (upd H x o) {s with heap:=h',toks:=t'}:=I.un (Un.write mu he k heo) (I.hok.write mu he k heo new)
theorem Inv.weak{σ':List (Option V)}(I:Inv X pins σ H s)(hl:σ'.length=σ.length)(w:∀(i:Nat) v,σ'[i]?=some (some v)->σ[i]?=some (some v)):Inv X pins σ' H s:=
 ⟨I.ok,I.os,I.bare,I.base,let ⟨m,hn,hl'⟩:=I.loc;⟨m,hn,fun i x v e1 e2 e3=>hl' i x v e1 (w i v e2) e3⟩,I.cell,I.free,I.freeC,I.pin,I.hok,hl.trans I.len⟩
theorem Inv.pins_of{pins':List (Addr×Obj)}(I:Inv X pins σ H s)(h:∀p∈pins',s.heap.get? p.1=some p.2/\H p.1=none/\p.1≠X.env.locals/\p.1∉X.fs/\∀v,p.2.data≠ .cell v):Inv X pins' σ H s:=
 ⟨I.ok,I.os,I.bare,I.base,I.loc,I.cell,I.free,I.freeC,fun p hp=>(Gj.mp hp).elim (fun z=>I.pin p (GC _ z)) (h p),I.hok,I.len⟩
theorem p8{N:List Str}(hN:N.Nodup){i j:Nat}{x:Str}(a:N[i]?=some x)(b:N[j]?=some x):i=j:=by obtain⟨h1,e1⟩:=Gr.mp a;obtain⟨h2,e2⟩:=Gr.mp b;exact(List.getElem_inj hN).mp (e1.trans e2.symm)
theorem rK{M:Model}{A:Around}{E:Value->Shared->Prop}{i:Nat}{x:Str}{v:V}{u:Value}{Q:Unit->Shared->Prop}(I:Inv X pins σ H s)(hN:X.N.Nodup)(hi:X.N[i]?=some x)(hx:Loc X.env.scope x)(r:RelV v u)
  (h:∀s',Inv X pins (σ.set i (some v)) H s'->(∃a,Heap.SameBut a s.heap s'.heap/\(a=X.env.locals\/X.env.cells.lookup x=some a))->Q () s') (hf:X.fn x=true\/X.env.scope.names.lookup x=some .local:=by first|exact .inl rfl|exact .inr rfl|assumption):wpAny M A (storeName X.env x u) Q E s:=by
 obtain⟨m,hn,hl⟩:=id I.loc;have hcls:(X.env.scope.kind== .class||(X.env.scope.kind== .module&&X.env.locals != X.env.globals))=false:=by rw[I.ok.kind];rfl
 have hiσ:i<σ.length:=by rw[I.len];exact(Gr.mp hi).1
 have cne:=I.cne;have tracked:∀{a:Addr}{h':Heap},(∃o,s.heap.get? a=some o/\H a=none)->Heap.SameBut a s.heap h'->HOk X.prog X.w H h':=fun {a h'} ha hs b ob e=>by
  obtain⟨_,_,hfree⟩:=ha;refine(I.hok b ob e).stay (fun c w' hc q=>(hs.2 c ?_).trans q) (fun _ q=>q) fun _ _ q=>q;rintro rfl;rcases hc with rfl|hc
  ·rw[hfree]at e;cases e
  ·rw[hfree]at hc;cases hc
 rcases hx with hk|hk
 ·refine wpAny_storeName_local hk hn (fun h' hn' hs=>?_) hcls;obtain⟨oL,_,_,hoL,_⟩:=id hn;refine h _ ⟨I.ok,I.os,I.bare,⟨fun b o e n hb hx=>?_,fun b o e n hb hx=>?_,I.base.free,fun b o e hx=>?_,I.base.tups,I.base.frzs,I.base.tbls⟩,⟨_,hn',fun j y v' e1 e2 e3=>?_⟩,fun y c e=>?_,I.free,I.freeC,fun p hp=>?_,tracked ⟨oL,hoL,I.free⟩ hs,by simpa using I.len⟩ ⟨_,hs,.inl rfl⟩
  ·exact(hs.2 b (Gz (F5 (Gf e) I.ok.above))).trans (I.base.keep b o e n hb hx)
  ·obtain⟨sl,e1⟩:=I.base.slot b o e n hb hx;exact⟨sl,(hs.2 b (Gz (F5 (Gf e) I.ok.above))).trans e1⟩
  ·obtain⟨o',e1⟩:=I.base.there b o e hx;exact⟨o',(hs.2 b (Gz (F5 (Gf e) I.ok.above))).trans e1⟩
  ·by_cases hj:j=i
   ·subst hj;rw[hi]at e1;cases e1;rw[List.getElem?_set_self hiσ]at e2;cases e2;exact⟨u,r,.inl ⟨hk,by simp⟩⟩
   ·rw[HM (Hg hj)]at e2;obtain⟨u',r',q⟩:=hl j y v' e1 e2 e3;refine⟨u',r',?_⟩;rcases q with⟨k,e⟩|⟨k,c,e,z⟩
    ·refine .inl ⟨k,?_⟩;have:y≠x:=fun e=>hj (p8 hN e1 (e▸hi));simp[this,e]
    ·exact .inr ⟨k,c,e,z.sameBut hs (cne y c e)⟩
  ·obtain⟨w',z⟩:=I.cell y c e;exact⟨w',z.sameBut hs (cne y c e)⟩
  ·obtain⟨e,n,ne,nf,d⟩:=I.pin p hp;exact⟨(hs.2 p.1 ne).trans e,n,ne,nf,d⟩
 ·have hfn:X.fn x=true:=by
   rcases hf with z|z
   ·exact z
   ·rw[z]at hk;cases hk
  obtain⟨c,hc⟩:=I.ok.has x (.inl hk);obtain⟨w',z⟩:=I.cell x c hc;refine wpAny_storeName_cell I.ok.kind hk hc z (fun h' hc' hs=>?_);obtain⟨oc,hoc,hocd⟩:=id z;refine h {s with heap:=h'} ⟨I.ok,I.os,I.bare,⟨fun b o e n hb hx=>?_,fun b o e n hb hx=>?_,I.base.free,fun b o e hx=>?_,I.base.tups,I.base.frzs,I.base.tbls⟩,⟨m,hn.sameBut hs (Hg (cne x c hc)),fun j y v' e1 e2 e3=>?_⟩,fun y c' e=>?_,I.free,I.freeC,fun p hp=>?_,tracked ⟨oc,hoc,I.freeC x c hc⟩ hs,by simpa using I.len⟩ ⟨c,hs,.inr hc⟩
  ·exact(hs.2 b (Gz (F5 (Gf e) (I.ok.cab x c hfn hc)))).trans (I.base.keep b o e n hb hx)
  ·obtain⟨sl,e1⟩:=I.base.slot b o e n hb hx;exact⟨sl,(hs.2 b (Gz (F5 (Gf e) (I.ok.cab x c hfn hc)))).trans e1⟩
  ·obtain⟨o',e1⟩:=I.base.there b o e hx;exact⟨o',(hs.2 b (Gz (F5 (Gf e) (I.ok.cab x c hfn hc)))).trans e1⟩
  ·by_cases hj:j=i
   ·subst hj;rw[hi]at e1;cases e1;rw[List.getElem?_set_self hiσ]at e2;cases e2;exact⟨u,r,.inr ⟨.inl hk,c,hc,hc'⟩⟩
   ·rw[HM (Hg hj)]at e2;obtain⟨u',r',q⟩:=hl j y v' e1 e2 e3;refine⟨u',r',?_⟩;rcases q with q|⟨k,c',e,z'⟩
    ·exact .inl q
    ·refine .inr ⟨k,c',e,z'.sameBut hs ?_⟩;rintro rfl;exact hj (p8 hN e1 (I.ok.inj _ _ _ e hc▸hi))
  ·by_cases hcc:c'=c
   ·subst hcc;exact⟨_,hc'⟩
   ·obtain⟨w2,z2⟩:=I.cell y c' e;exact⟨w2,z2.sameBut hs hcc⟩
  ·obtain⟨e,n,ne,nf,d⟩:=I.pin p hp;refine⟨(hs.2 p.1 ?_).trans e,n,ne,nf,d⟩;intro q;rw[q,hoc]at e;have q':oc=p.2:=GB e;exact d w' (by rw[<-q'];exact hocd)
theorem oY{M:Model}{A:Around}{E:Value->Shared->Prop}{i:Nat}{x:Str}{v:V}{u:Value}{Q:Unit->Shared->Prop}(I:Inv X pins σ H s)(hN:X.N.Nodup)(hi:X.N[i]?=some x)(hx:Loc X.env.scope x)(r:RelV v u)
  (h:∀s',Inv X pins (σ.set i (some v)) H s'->Q () s') (hf:X.fn x=true\/X.env.scope.names.lookup x=some .local:=by first|exact .inl rfl|exact .inr rfl|assumption):wpAny M A (storeName X.env x u) Q E s:=
 rK I hN hi hx r (fun s' I' _=>h s' I') hf
theorem Inv.call'{s':Shared}{ch:List Addr}(I:Inv X pins σ H s)(ho:s'.os=s.os)(u:Un (frs X.stack) ch H H' s.heap s'.heap)(hok:HOk X.prog X.w H' s'.heap)(hg:AllBare s'.gens)
  (hch:∀b∈ch,(b∈X.ex\/X.s₀.heap.objs.size<=b)/\b≠X.env.locals/\(∀x c,X.env.cells.lookup x=some c->c≠b)/\∀p∈X.pn++pins,p.1≠b):Inv X pins σ H' s':=by
 obtain⟨h',g',d',t',o'⟩:=s';have e:o'=s.os:=ho;subst e;exact I.call (g':=g') (t':=t') (d':=d') u hok hg hch
end
noncomputable abbrev XK:=Value->Option Addr->Hp->Prop
noncomputable abbrev St:=List (Option V)
noncomputable abbrev VK:=V->Hp->Prop
noncomputable abbrev TE:=St->Hp->VK->Prop
noncomputable abbrev TT:=St->Hp->(Bool->Hp->Prop)->Prop
noncomputable abbrev TA:=St->Hp->(List V->Hp->Prop)->Prop
structure Ends where
 nx:St->Hp->Prop
 rt:VK
 bk:St->Hp->Prop:=fun _ _=>False
 ct:St->Hp->Prop:=fun _ _=>False
noncomputable abbrev TS:=Ends->St->Hp->Prop
def EP(X:Cx)(pins:List (Addr×Obj))(σ:St)(Q:VK)(u:Value)(s':Shared):Prop:=∃v H',Inv X pins σ H' s'/\RelV v u/\Q v H'
def TP(X:Cx)(pins:List (Addr×Obj))(σ:St)(Q:Bool->Hp->Prop)(b:Bool)(s':Shared):Prop:=∃H',Inv X pins σ H' s'/\Q b H'
def AP(X:Cx)(pins:List (Addr×Obj))(σ:St)(Q:List V->Hp->Prop)(us:List Value)(s':Shared):Prop:=∃vs H',Inv X pins σ H' s'/\Vals vs us/\Q vs H'
def SP(X:Cx)(pins:List (Addr×Obj))(D:Ends)(f:Flow)(s':Shared):Prop:=
 match f with
 | .next=>∃σ' H',Inv X pins σ' H' s'/\D.nx σ' H'
 | .brk=>∃σ' H',Inv X pins σ' H' s'/\D.bk σ' H'
 | .cont=>∃σ' H',Inv X pins σ' H' s'/\D.ct σ' H'
 | .ret u=>∃v σ' H',Inv X pins σ' H' s'/\RelV v u/\D.rt v H'
def PE(X:Cx)(e:Expr)(t:TE):Prop:=
 ∀(pins:List (Addr×Obj))(s:Shared)(σ:St)(H:Hp)(Q:VK),Inv X pins σ H s->t σ H Q->wpAny (model X.prog X.w) X.A (eval e X.env) (EP X pins σ Q) X.xe s
def PT(X:Cx)(e:Expr)(t:TT):Prop:=
 ∀(pins:List (Addr×Obj))(s:Shared)(σ:St)(H:Hp)(Q:Bool->Hp->Prop),Inv X pins σ H s->t σ H Q->wpAny (model X.prog X.w) X.A (isTrue e X.env (eval e X.env)) (TP X pins σ Q) X.xe s
def PW(X:Cx)(e:Expr)(t:TT):Prop:=
 ∀(whole:Sem Value)(pins:List (Addr×Obj))(s:Shared)(σ:St)(H:Hp)(Q:Bool->Hp->Prop),Inv X pins σ H s->t σ H Q->wpAny (model X.prog X.w) X.A (isTrue e X.env whole) (TP X pins σ Q) X.xe s
theorem PW.pt{X:Cx}{e:Expr}{t:TT}(h:PW X e t):PT X e t:=h _
def PA(X:Cx)(es:List Expr)(t:TA):Prop:=
 ∀(pos:Pos)(pins:List (Addr×Obj))(s:Shared)(σ:St)(H:Hp)(Q:List V->Hp->Prop),Inv X pins σ H s->t σ H Q->wpAny (model X.prog X.w) X.A (spliced (backTo pos (starEach es X.env))) (AP X pins σ Q) X.xe s
def PS(X:Cx)(st:Stmt)(t:TS):Prop:=
 ∀(pins:List (Addr×Obj))(s:Shared)(σ:St)(H:Hp)(D:Ends),Inv X pins σ H s->t D σ H->wpAny (model X.prog X.w) X.A (exec st X.env) (SP X pins D) X.xe s
def PSs(X:Cx)(st:List Stmt)(t:TS):Prop:=
 ∀(pins:List (Addr×Obj))(s:Shared)(σ:St)(H:Hp)(D:Ends),Inv X pins σ H s->t D σ H->wpAny (model X.prog X.w) X.A (execs st X.env) (SP X pins D) X.xe s
theorem thn{α:Type}{t:Sem α}{Q Q':α->Shared->Prop}{M:Model}{A:Around}{E:Value->Shared->Prop}{s:Shared}(h:wpAny M A t Q E s)(hQ:∀a s,Q a s->Q' a s):wpAny M A t Q' E s:=Gy h hQ fun _ _ x=>x
section
variable{X:Cx}
def El(i:Nat):TE:=fun σ H Q=>∃v,σ[i]?=some (some v)/\Q v H
def tC(v:V):TE:=fun _ H Q=>Q v H
theorem Dw{i:Nat}{x:Str}{pos:Pos}(hN:X.N[i]?=some x)(hv:Vis X.env.scope x)(hd:(x==("__debug__":Str))=false:=by decide)(hcd:(x==("__classdict__":Str))=false:=by decide):PE X (.Name x pos) (El i):=by
 intro pins s σ H Q I h;obtain⟨v,e,h⟩:=h;obtain⟨m,hn,hl⟩:=I.loc;obtain⟨u,r,l⟩:=hl i x v hN e hv;have fin:EP X pins σ Q u s:=⟨v,H,I,r,h⟩;rcases l with⟨hk,hm⟩|⟨hk,c,hc,hcell⟩
 ·exact wpAny_Name (wpAny_loadName_local I.ok.kind hk hn hm fin) hd
 ·rcases hk with hk|hk
  ·exact wpAny_Name (wpAny_loadName_cell I.ok.kind hk hc hcell fin) hd
  ·exact wpAny_Name (wpAny_loadName_free I.ok.kind hk hc hcell fin hcd) hd
theorem ae{i j pos}:PE X (.Constant (.int i) j pos) (tC (.int i)):=fun _ _ _ H _ I h=>wpAny_Constant_int ⟨.int i,H,I.tok _,⟨_,rfl⟩,h⟩
theorem uW{b j pos}:PE X (.Constant (.bool b) j pos) (tC (.bl b)):=fun _ _ _ H _ I h=>Constant_bool ⟨.bl b,H,I,rfl,h⟩
theorem dA{j pos}:PE X (.Constant .none j pos) (tC .non):=fun _ _ _ H _ I h=>Constant_none ⟨.non,H,I,rfl,h⟩
theorem aS{x j pos}:PE X (.Constant (.str x) j pos) (tC (.str x)):=fun _ _ _ H _ I h=>Calls.Constant_str ⟨.str x,H,I.tok _,⟨_,rfl⟩,h⟩
def Gl(X:Cx)(x:Str):Prop:=X.env.kindOf x=some .globalImplicit
theorem gx{E:Value->Shared->Prop}{pins:List (Addr×Obj)}{s:Shared}{σ:St}{H:Hp}{x:Str}{u:Value}{pos:Pos}{Q:Value->Shared->Prop}(I:Inv X pins σ H s)(hg:Gl X x)(hm:X.mg x=some u)(h:Q u s)
  (hd:(x==("__debug__":Str))=false:=by decide):wpAny (model X.prog X.w) X.A (eval (.Name x pos) X.env) Q E s:=
 Calls.Name_function_global I.ok.kind hg (Calls.loadGlobal_global (by rw[I.ok.glob];exact I.mod.glob.keeps I.bk) hm h) hd
theorem tW{E:Value->Shared->Prop}{pins:List (Addr×Obj)}{s:Shared}{σ:St}{H:Hp}{x:Str}{u:Value}{pos:Pos}{Q:Value->Shared->Prop}(I:Inv X pins σ H s)(hg:Gl X x)(hm:X.mg x=none)(hv:bootBuiltins x=some u)(h:Q u s)
  (hn:x≠"__name__":=by decide) (hd:(x==("__debug__":Str))=false:=by decide):wpAny (model X.prog X.w) X.A (eval (.Name x pos) X.env) Q E s:=by
 obtain⟨mb,h1,h2⟩:=I.mod.blt;exact Calls.Name_function_global I.ok.kind hg (Calls.loadGlobal_builtin (by rw[I.ok.glob];exact I.mod.glob.keeps I.bk) hm (by rw[I.ok.blt];exact h1.keeps I.bk) ((h2 x hn).trans hv) h) hd
theorem iU{x:Str}{v:V}{u:Value}{pos:Pos}(hg:Gl X x)(hm:X.mg x=some u)(r:RelV v u)(hd:(x==("__debug__":Str))=false:=by decide):PE X (.Name x pos) (tC v):=
 fun _ _ _ H _ I h=>gx I hg hm ⟨v,H,I,r,h⟩ hd
theorem jQ{x:Str}{v:V}{u:Value}{pos:Pos}(hg:Gl X x)(hm:X.mg x=none)(hv:bootBuiltins x=some u)(r:RelV v u)(hn:x≠"__name__":=by decide)(hd:(x==("__debug__":Str))=false:=by decide):PE X (.Name x pos) (tC v):=
 fun _ _ _ H _ I h=>tW I hg hm hv ⟨v,H,I,r,h⟩ hn hd
variable{a b:Expr}{ta tb:TE}{pos:Pos}
def PC(X:Cx)(op:CmpOp)(a b:Expr)(t:TE):Prop:=
 ∀(pins:List (Addr×Obj))(s:Shared)(σ:St)(H:Hp)(Q:VK),Inv X pins σ H s->t σ H Q->
  wpAny (model X.prog X.w) X.A (eval a X.env) (fun v s₁=>wpAny (model X.prog X.w) X.A (eval b X.env) (fun u s₂=>wpAny (model X.prog X.w) X.A (compareOp op v u) (EP X pins σ Q) X.xe s₂) X.xe s₁) X.xe s
def tB(t:TE):TT:=fun σ H Q=>t σ H fun x H1=>∃c,x=.bl c/\Q c H1
theorem Ds{op:CmpOp}{t:TE}(h:PC X op a b t)(h1:behindInMarks op b=false:=by first|exact nobehind _ (by decide) (by decide)|rfl):PT X (.Compare a [op] [b] pos) (tB t):=by intro pins s σ H Q I hw;refine wpAny_isTrue_Compare1 (thn (h pins s σ H _ I hw) fun v s1 h1=>thn h1 fun u s2 h2=>thn h2 fun c s3 hPz=>?_) h1;obtain⟨x,H1,I1,r1,q1⟩:=hPz;obtain⟨d,rfl,q⟩:=q1;cases r1;exact wpAny_truthy_bool ⟨H1,I1,q⟩
theorem dP{e:Expr}{t:TE}(h:PE X e t)(he:∀whole,isTrue e X.env whole=(do let v <-whole;standAt e.pos;holding [v] (truthy v)):=by intro _;rfl):PT X e (tB t):=by intro pins s σ H Q I hw;refine isTrue_plain (thn (h pins s σ H _ I hw) fun v s1 hPz=>?_) (he _);obtain⟨x,H1,I1,r1,q1⟩:=hPz;obtain⟨d,rfl,q⟩:=q1;cases r1;exact wpAny_truthy_bool ⟨H1,I1,q⟩
variable{tA tB':TT}{rest:List Expr}
def FA(t u:TT):TT:=fun σ H Q=>t σ H fun c H1=>if c=true then u σ H1 Q else Q false H1
def tOr(t u:TT):TT:=fun σ H Q=>t σ H fun c H1=>if c=true then Q true H1 else u σ H1 Q
def Fs(t:TT):TT:=fun σ H Q=>t σ H fun c H1=>Q (!c) H1
theorem hV(ha:PT X a tA):PW X (.BoolOp .And [a] pos) tA:=by
 intro wh pins s σ H Q I h;refine isTrue_and (thn (ha pins s σ H Q I h) fun c s1 e=>?_);cases c with
 |true=>exact isTrue_and_nil e
 |false=>exact e
theorem pJ(ha:PT X a tA):PW X (.BoolOp .Or [a] pos) tA:=by
 intro wh pins s σ H Q I h;refine isTrue_or (thn (ha pins s σ H Q I h) fun c s1 e=>?_);cases c with
 |false=>exact isTrue_or_nil e
 |true=>exact e
theorem ip(ha:PT X a tA)(hb:PW X (.BoolOp .And (b::rest) pos) tB'):PW X (.BoolOp .And (a::b::rest) pos) (FA tA tB'):=by
 intro wh pins s σ H Q I h;refine isTrue_and (thn (ha pins s σ H _ I h) fun c s1 hPz=>?_);obtain⟨H1,I1,q1⟩:=hPz;cases c with
 |true=>exact hb wh pins s1 σ H1 Q I1 q1
 |false=>exact⟨H1,I1,q1⟩
theorem uQ(ha:PT X a tA)(hb:PW X (.BoolOp .Or (b::rest) pos) tB'):PW X (.BoolOp .Or (a::b::rest) pos) (tOr tA tB'):=by
 intro wh pins s σ H Q I h;refine isTrue_or (thn (ha pins s σ H _ I h) fun c s1 hPz=>?_);obtain⟨H1,I1,q1⟩:=hPz;cases c with
 |true=>exact⟨H1,I1,q1⟩
 |false=>exact hb wh pins s1 σ H1 Q I1 q1
theorem tD(ha:PT X a tA):PT X (.UnaryOp .Not a pos) (Fs tA):=by intro pins s σ H Q I h;exact isTrue_not (ha pins s σ H (fun c H1=>Q (!c) H1) I h)
def EA(ta tb:TE):TE:=fun σ H Q=>ta σ H fun x H1=>∃c,x=.bl c/\if c=true then tb σ H1 Q else Q (.bl false) H1
def Fq(ta tb:TE):TE:=fun σ H Q=>ta σ H fun x H1=>∃c,x=.bl c/\if c=true then Q (.bl true) H1 else tb σ H1 Q
def Er(ta:TE):TE:=fun σ H Q=>ta σ H fun x H1=>∃c,x=.bl c/\Q (.bl (!c)) H1
theorem iT{op}{t:TE}(h:PE X a t):PE X (.BoolOp op [a] pos) t:=fun pins s σ H Q I hw=>BoolOp_one (h pins s σ H Q I hw)
theorem mQ(ha:PE X a ta)(hb:PE X (.BoolOp .And (b::rest) pos) tb):PE X (.BoolOp .And (a::b::rest) pos) (EA ta tb):=by
 intro pins s σ H Q I h;refine BoolOp_and (thn (ha pins s σ H _ I h) fun v s1 hPz=>?_);obtain⟨x,H1,I1,r1,q1⟩:=hPz;obtain⟨c,rfl,q1⟩:=q1;cases r1;refine wpAny_truthy_bool ?_;cases c with
 |true=>exact hb pins s1 σ H1 Q I1 q1
 |false=>exact⟨.bl false,H1,I1,rfl,q1⟩
theorem zP(ha:PE X a ta)(hb:PE X (.BoolOp .Or (b::rest) pos) tb):PE X (.BoolOp .Or (a::b::rest) pos) (Fq ta tb):=by
 intro pins s σ H Q I h;refine BoolOp_or (thn (ha pins s σ H _ I h) fun v s1 hPz=>?_);obtain⟨x,H1,I1,r1,q1⟩:=hPz;obtain⟨c,rfl,q1⟩:=q1;cases r1;refine wpAny_truthy_bool ?_;cases c with
 |false=>exact hb pins s1 σ H1 Q I1 q1
 |true=>exact⟨.bl true,H1,I1,rfl,q1⟩
theorem Dx(ha:PE X a ta):PE X (.UnaryOp .Not a pos) (Er ta):=by intro pins s σ H Q I h;refine UnaryOp_ (thn (ha pins s σ H _ I h) fun v s1 hPz=>?_);obtain⟨x,H1,I1,r1,q1⟩:=hPz;obtain⟨c,rfl,q1⟩:=q1;cases r1;exact not_of (wpAny_truthy_bool ⟨.bl (!c),H1,I1,rfl,q1⟩)
end
def SqL(K:Frag)(H:Hp)(a:Addr)(xs:List V):Prop:=
 Rd H a (.lst xs)\/
  ∃(o:Obj)(its:Array Value)(n:Nat),K.lookup a=some o/\o.cls=.type "list"/\o.dict=none/\o.data=.seq its n/\its.size<=sizeLine/\Vals xs its.toList
def SqT(K:Frag)(H:Hp)(a:Addr)(xs:List V):Prop:=
 Rd H a (.tup xs)\/
  ∃(o:Obj)(its:Array Value)(n:Nat),K.lookup a=some o/\o.cls=.type "tuple"/\o.data=.seq its n/\its.size<=sizeLine/\Vals xs its.toList
noncomputable def FU:Value->Option V
 | .none=>some .non
 | .bool b=>some (.bl b)
 | .int i _=>some (.int i)
 | .str x _=>some (.str x)
 | .bytes b _=>some (.byt b)
 | .float b _=>some (.flt b)
 | .ref a=>some (.ref a)
 | .type n=>some (.ty n)
 |_=>none
theorem RelV.abs{x:V}{u:Value}(r:RelV x u):FU u=some x:=by
 cases x with
 |non=>cases r;rfl
 |bl _=>cases r;rfl
 |int _=>obtain⟨t,rfl⟩:=r;rfl
 |str _=>obtain⟨t,rfl⟩:=r;rfl
 |byt _=>obtain⟨t,rfl⟩:=r;rfl
 |flt _=>obtain⟨t,rfl⟩:=r;rfl
 |ref _=>cases r;rfl
 |ty _=>cases r;rfl
theorem RelV.inj{x y:V}{u:Value}(r:RelV x u)(q:RelV y u):x=y:=GB (r.abs.symm.trans q.abs)
theorem Vals.inj:∀{xs ys:List V}{us:List Value},Vals xs us->Vals ys us->xs=ys
 |_,_,_,.nil,.nil=>rfl
 |_,_,_,.cons r t,.cons r' t'=>by rw[r.inj r',Vals.inj t t']
section
variable{X:Cx}{pins:List (Addr×Obj)}{σ:St}{H:Hp}{s:Shared}{a:Addr}{xs ys:List V}
theorem SqL.of{K:Frag}(h:H a=some (.lst xs)):SqL K H a xs:=.inl (.inl h)
theorem SqT.of{K:Frag}(h:H a=some (.tup xs)):SqT K H a xs:=.inl (.inl h)
theorem Inv.list(I:Inv X pins σ H s)(h:SqL X.K H a xs):∃its:List Value,Vals xs its/\PlainL s.heap a its.toArray/\xs.length<=sizeLine:=by
 rcases h with h|⟨o,its,n,hk,hc,hd,hs,hz,r⟩
 ·obtain⟨z,its,n,r,e⟩:=h.ok I.hok;exact⟨its,r,⟨_,n,e,rfl,rfl,rfl⟩,z⟩
 ·refine⟨its.toList,r,⟨o,n,I.kIn a o hk,hc,hd,by simpa using hs⟩,?_⟩;have e:=r.length;simp only[Hj]at e;omega
theorem Inv.tuple(I:Inv X pins σ H s)(h:SqT X.K H a xs):∃its:List Value,Vals xs its/\IsTup s.heap a its.toArray/\xs.length<=sizeLine:=by
 rcases h with h|⟨o,its,n,hk,hc,hs,hz,r⟩
 ·obtain⟨z,its,r,p⟩:=h.ok I.hok;exact⟨its,r,p,z⟩
 ·refine⟨its.toList,r,⟨o,I.kIn a o hk,hc,n,by simpa using hs⟩,?_⟩;have e:=r.length;simp only[Hj]at e;omega
theorem Inv.list_inj(I:Inv X pins σ H s)(h:SqL X.K H a xs)(h':SqL X.K H a ys):xs=ys:=by
 obtain⟨its,r,⟨o,n,e,_,_,d⟩,_⟩:=I.list h;obtain⟨its',r',⟨o',n',e',_,_,d'⟩,_⟩:=I.list h';rw[e]at e';cases e';rw[d]at d';injection d' with d1 _;have:its=its':=by simpa using congrArg Array.toList d1
 subst this;exact r.inj r'
theorem Inv.tuple_inj(I:Inv X pins σ H s)(h:SqT X.K H a xs)(h':SqT X.K H a ys):xs=ys:=by
 obtain⟨its,r,⟨o,e,_,n,d⟩,_⟩:=I.tuple h;obtain⟨its',r',⟨o',e',_,n',d'⟩,_⟩:=I.tuple h';rw[e]at e';cases e';rw[d]at d';injection d' with d1 _;have:its=its':=by simpa using congrArg Array.toList d1
 subst this;exact r.inj r'
end
noncomputable abbrev Cx.wish(X:Cx)(E:Value->Shared->Prop):Cx:={X with xe:=E}
noncomputable abbrev Cx.nox(X:Cx):Cx:=X.wish fun _ _=>False
theorem Cx.Ok.wish{X:Cx}(ok:X.Ok)(E:Value->Shared->Prop):(X.wish E).Ok:=
 ⟨ok.mod,ok.kind,ok.glob,ok.blt,ok.above,ok.inj,ok.has,ok.cab,ok.hd,ok.frames,ok.stk,ok.exf,ok.bs,ok.bsz,ok.noex,ok.exfs,ok.funs,ok.frf⟩
theorem Cx.Ok.unwish{X:Cx}{E:Value->Shared->Prop}(ok:(X.wish E).Ok):X.Ok:=
 ⟨ok.mod,ok.kind,ok.glob,ok.blt,ok.above,ok.inj,ok.has,ok.cab,ok.hd,ok.frames,ok.stk,ok.exf,ok.bs,ok.bsz,ok.noex,ok.exfs,ok.funs,ok.frf⟩
section
variable{X:Cx}{pins:List (Addr×Obj)}{σ:St}{H:Hp}{s:Shared}{E:Value->Shared->Prop}
theorem Inv.wish(I:Inv X pins σ H s)(E:Value->Shared->Prop):Inv (X.wish E) pins σ H s:=⟨I.ok.wish E,I.os,I.bare,I.base,I.loc,I.cell,I.free,I.freeC,I.pin,I.hok,I.len⟩
theorem Inv.unwish(I:Inv (X.wish E) pins σ H s):Inv X pins σ H s:=⟨I.ok.unwish,I.os,I.bare,I.base,I.loc,I.cell,I.free,I.freeC,I.pin,I.hok,I.len⟩
theorem SP.unwish{D:Ends}{f:Flow}{s':Shared}(h:SP (X.wish E) pins D f s'):SP X pins D f s':=by
 cases f with
 |next=>obtain⟨σ',H',I,q⟩:=h;exact⟨σ',H',I.unwish,q⟩
 |brk=>obtain⟨σ',H',I,q⟩:=h;exact⟨σ',H',I.unwish,q⟩
 |cont=>obtain⟨σ',H',I,q⟩:=h;exact⟨σ',H',I.unwish,q⟩
 |ret u=>obtain⟨v,σ',H',I,r,q⟩:=h;exact⟨v,σ',H',I.unwish,r,q⟩
theorem PSs.nox{st:List Stmt}{t:TS}(h:PSs X.nox st t):PSs X st t:=fun pins s σ H D I hw=>Gy (h pins s σ H D (I.wish _) hw) (fun _ _ q=>q.unwish) fun _ _ z=>False.elim z
end
section
variable{X:Cx}{st:Stmt}{rest:List Stmt}{t u:TS}{e:Expr}{te:TE}{pos:Pos}
def Es:TS:=fun D σ H=>D.nx σ H
def Fm(t u:TS):TS:=fun D σ H=>t {D with nx:=u D} σ H
theorem aK:PSs X [] Es:=fun _ _ σ H _ I h=>wpAny_execs_nil ⟨σ,H,I,h⟩
theorem aj(h1:PS X st t)(h2:PSs X rest u):PSs X (st::rest) (Fm t u):=by
 intro pins s σ H D I h;refine wpAny_execs_cons (thn (h1 pins s σ H {D with nx:=u D} I h) fun f s1 q=>?_);cases f with
 |next=>obtain⟨σ',H',I',q⟩:=q;exact h2 pins s1 σ' H' D I' q
 |ret v=>exact q
 |brk=>exact q
 |cont=>exact q
theorem ao(h1:PS X st t):PSs X [st] t:=by
 intro pins s σ H D I h;refine wpAny_execs_cons (thn (h1 pins s σ H D I h) fun f s1 q=>?_);cases f with
 |next=>exact wpAny_execs_nil q
 |ret v=>exact q
 |brk=>exact q
 |cont=>exact q
theorem Inv.quiet{pins:List (Addr×Obj)}{σ:St}{H:Hp}{s:Shared}(I:Inv X pins σ H s):interactive X.env=false:=by simp[interactive,I.ok.kind]
def Ew(te:TE):TS:=fun D σ H=>te σ H fun _ H1=>D.nx σ H1
theorem cZ(he:PE X e te)(hs:swapsWith e none pos.line X.env=pure false:=by rfl):PS X (.Expr e pos) (Ew te):=by intro pins s σ H D I h;exact wpAny_Expr_any (thn (he pins s σ H _ I h) fun v s1 hPz=>L2.ep3 hPz fun x H1 I1 r1 q1=>⟨σ,H1,I1,q1⟩) I.quiet hs
def Fp(te:TE):TS:=fun D σ H=>te σ H D.rt
theorem aH(he:PE X e te):PS X (.Return (some e) pos) (Fp te):=by intro pins s σ H D I h;exact wpAny_Return_some (thn (he pins s σ H _ I h) fun v s1 hPz=>L2.ep3 hPz fun x H1 I1 r1 q1=>⟨x,σ,H1,I1,r1,q1⟩)
def Fw(c:TT)(t u:TS):TS:=fun D σ H=>c σ H fun b H1=>if b=true then t D σ H1 else u D σ H1
theorem aU{c:Expr}{a b:List Stmt}{tc:TT}(hc:PT X c tc)(ha:PSs X a t)(hb:PSs X b u):PS X (.If c a b pos) (Fw tc t u):=by
 intro pins s σ H D I h;refine wpAny_If (thn (hc pins s σ H _ I h) fun d s1 hPz=>?_);obtain⟨H1,I1,q1⟩:=hPz;cases d with
 |true=>exact ha pins s1 σ H1 D I1 q1
 |false=>exact hb pins s1 σ H1 D I1 q1
end
noncomputable abbrev TG:=V->St->Hp->(St->Hp->Prop)->Prop
noncomputable abbrev TGs:=List V->St->Hp->(St->Hp->Prop)->Prop
def PG(X:Cx)(target:Expr)(t:TG):Prop:=
 ∀(pins:List (Addr×Obj))(s:Shared)(σ:St)(H:Hp)(v:V)(u:Value)(Q:St->Hp->Prop),Inv X pins σ H s->RelV v u->t v σ H Q->
  wpAny (model X.prog X.w) X.A (assign target X.env u) (fun _ s'=>∃σ' H',Inv X pins σ' H' s'/\Q σ' H') X.xe s
def PGs(X:Cx)(ts:List Expr)(t:TGs):Prop:=
 ∀(pins:List (Addr×Obj))(s:Shared)(σ:St)(H:Hp)(vs:List V)(us:List Value)(Q:St->Hp->Prop),Inv X pins σ H s->Vals vs us->t vs σ H Q->
  wpAny (model X.prog X.w) X.A (assignInOrder ((assignEach ts X.env).map (·.2)) us) (fun _ s'=>∃σ' H',Inv X pins σ' H' s'/\Q σ' H') X.xe s
noncomputable abbrev Eb:=V->V->V->Hp->(Hp->Prop)->Prop
def Fd(X:Cx)(t:Eb):Prop:=
 ∀(pins:List (Addr×Obj))(s:Shared)(σ:St)(H:Hp)(o i v:V)(ov iv u:Value)(Q:Hp->Prop),Inv X pins σ H s->RelV o ov->RelV i iv->RelV v u->t o i v H Q->
  wpAny (model X.prog X.w) X.A (setItem ov iv u) (fun _ s'=>∃H',Inv X pins σ H' s'/\Q H') X.xe s
section
variable{X:Cx}{pos:Pos}
def kF(i:Nat):TG:=fun v σ H Q=>Q (σ.set i (some v)) H
theorem aR{i:Nat}{x:Str}(hN:X.N.Nodup)(hi:X.N[i]?=some x)(hx:Loc X.env.scope x)(hf:X.fn x=true\/X.env.scope.names.lookup x=some .local:=by first|exact .inl rfl|exact .inr rfl|assumption):PG X (.Name x pos) (kF i):=by intro pins s σ H v u Q I r h;exact wpAny_assign_Name (oY I hN hi hx r (fun s' I'=>⟨_,H,I',h⟩) hf)
def DV:TGs:=fun vs σ H Q=>vs=[]/\Q σ H
def vp(t:TG)(u:TGs):TGs:=fun vs σ H Q=>∃v r,vs=v::r/\t v σ H fun σ' H'=>u r σ' H' Q
theorem oA:PGs X [] DV:=by intro pins s σ H vs us Q I r h;obtain⟨e,h⟩:=h;subst e;cases r;exact assignInOrder_nil ⟨σ,H,I,h⟩
theorem fu{e:Expr}{es:List Expr}{t:TG}{u:TGs}(h1:PG X e t)(h2:PGs X es u)
  (hs:(assignEach (e::es) X.env).map (·.2)=assign e X.env::(assignEach es X.env).map (·.2):=by rfl):PGs X (e::es) (vp t u):=by
 intro pins s σ H vs us Q I r h;obtain⟨v,vr,e1,h⟩:=h;subst e1;cases r with
 |cons r rr=>rw[hs];refine assignInOrder_cons (thn (h1 pins s σ H _ _ _ I r h) fun _ s1 hPz=>?_);obtain⟨σ1,H1,I1,q1⟩:=hPz;exact h2 pins s1 σ1 H1 _ _ Q I1 rr q1
def Cf(K:Frag)(n:Nat)(t:TGs):TG:=fun v σ H Q=>∃a xs,v=.ref a/\SqT K H a xs/\xs.length=n/\t xs σ H Q
theorem tH{es:List Expr}{k:Nat}{t:TGs}{n:Nat}(hc:X.calm=true)(h:PGs X es t)
  (hn:(assignEach es X.env).length=n:=by rfl) (hst:(assignEach es X.env).findIdx? (·.1)=none:=by rfl):PG X (.Tuple es k pos) (Cf X.K n t):=by
 intro pins s σ H v u Q I r hw;obtain⟨a,xs,e1,hq,hl,hw⟩:=hw;subst e1;cases r;obtain⟨its,rv,ht,hz⟩:=I.tuple hq;refine assign_Tuple_tuple (I.ok.hd hc) ht (by simp[hn,<-hl,rv.length]) hst fun h' hx=>?_;have I1:Inv X pins σ H {s with heap:=h'}:=I.kept (t':=s.toks) fun b o e=>hx b o (Gz (Gf e)) e;exact h pins _ σ H xs _ Q I1 (by simpa using rv) hw
def FR(to ti:TE)(t:Eb):TG:=fun v σ H Q=>to σ H fun o H1=>ti σ H1 fun i H2=>t o i v H2 fun H3=>Q σ H3
theorem zO{o i:Expr}{to ti:TE}{t:Eb}(ho:PE X o to)(hi:PE X i ti)(hs:Fd X t)
  (ha:∀v,assign (.Subscript o i pos) X.env v=(do
   let ov <-holding [v] (eval o X.env);let iv <-holding [v,ov] (eval i X.env)
   standAt pos
   holding [v,ov,iv] (setItem ov iv v)
   release [v,ov,iv] []):=by intro _;rfl):PG X (.Subscript o i pos) (FR to ti t):=by
 intro pins s σ H v u Q I r h;rw[ha];refine FZ (G9 (thn (ho pins s σ H _ I h) fun ov s1 hPz=>?_));obtain⟨x,H1,I1,r1,q1⟩:=hPz;refine FZ (G9 (thn (hi pins s1 σ H1 _ I1 q1) fun iv s2 hPz=>?_));obtain⟨y,H2,I2,r2,q2⟩:=hPz;refine FZ (wpAny_standAt (FZ (G9 (thn (hs pins s2 σ H2 x y v ov iv u _ I2 r1 r2 r q2) fun _ s3 hPz=>?_))));obtain⟨H3,I3,q3⟩:=hPz;exact wpAny_release ⟨σ,H3,I3,q3⟩
def Dk(te:TE)(g:TG):TS:=fun D σ H=>te σ H fun x H1=>g x σ H1 D.nx
theorem wm{tg e:Expr}{te:TE}{g:TG}(he:PE X e te)(hg:PG X tg g)(hs:swapsWithSole [tg] e pos.line X.env=pure false:=by rfl)(hw:swappedStores [tg] e X.env=pure none:=by rfl)
  (h1:(assignEach [tg] X.env).map (·.2)=[assign tg X.env]:=by rfl):PS X (.Assign [tg] e pos) (Dk te g):=by
 intro pins s σ H D I h;refine wpAny_Assign_stores (thn (he pins s σ H _ I h) fun v s1 hPz=>?_) hs hw;obtain⟨x,H1,I1,r1,q1⟩:=hPz;rw[h1];exact thn (hg pins s1 σ H1 x v _ I1 r1 q1) fun _ s2 q=>q
theorem aA{i:Nat}{x:Str}{e:Expr}{te:TE}{pos':Pos}(hN:X.N.Nodup)(hi:X.N[i]?=some x)(hx:Loc X.env.scope x)(he:PE X e te)(hs:swapsWith e (some (.Name x pos')) pos.line X.env=pure false:=by rfl)(hf:X.fn x=true\/X.env.scope.names.lookup x=some .local:=by first|exact .inl rfl|exact .inr rfl|assumption):
  PS X (.Assign [.Name x pos'] e pos) (Dk te (kF i)):=by
 intro pins s σ H D I h;refine wpAny_Assign_Name (thn (he pins s σ H _ I h) fun v s1 hPz=>?_) hs;obtain⟨y,H1,I1,r1,q1⟩:=hPz;exact oY I1 hN hi hx r1 (fun s2 I2=>⟨_,H1,I2,q1⟩) hf
def C9(c:TT)(tb:TS):TS:=fun D σ H=>∃W:Nat->St->Hp->Prop,(∃m,W m σ H)/\∀m σ H,W m σ H->
 c σ H fun b H1=>if b=true then ∃N:St->Hp->Prop,(∀σ' H',N σ' H'->∃m',m'<m/\W m' σ' H')/\tb {D with nx:=N,ct:=N,bk:=D.nx} σ H1 else D.nx σ H1
theorem pK{c:Expr}{body:List Stmt}{tc:TT}{tb:TS}(hp:PassesOwn (model X.prog X.w) X.A X.env X.xe)(hc:PT X c tc)(hb:PSs X body tb):PS X (.While c body [] pos) (C9 tc tb):=by
 intro pins s σ H D I h;obtain⟨W,⟨m0,w0⟩,turn⟩:=h;refine wpAny_While (codeAny_whileLoop (fun n s'=>∃σ' H',Inv X pins σ' H' s'/\W n σ' H') ?_ m0 ⟨σ,H,I,w0⟩);rintro n s1 ⟨σ1,H1,I1,w1⟩;refine wpAny_passesOwn hp (thn (hc pins s1 σ1 H1 _ I1 (turn n σ1 H1 w1)) fun b s2 hPz=>?_);obtain⟨H2,I2,q2⟩:=hPz;cases b with
 |true=>
  obtain⟨N,hN,q2⟩:=q2;rw[F8 rfl];refine wpAny_passesOwn hp (thn (hb pins s2 σ1 H2 _ I2 q2) fun f s3 q3=>?_);cases f with
  |next=>obtain⟨σ3,H3,I3,n3⟩:=q3;obtain⟨m',hm,w3⟩:=hN σ3 H3 n3;exact⟨m',hm,σ3,H3,I3,w3⟩
  |cont=>obtain⟨σ3,H3,I3,n3⟩:=q3;obtain⟨m',hm,w3⟩:=hN σ3 H3 n3;exact⟨m',hm,σ3,H3,I3,w3⟩
  |brk=>exact q3
  |ret v=>exact q3
 |false=>rw[F6 Gv];exact wpAny_execs_nil ⟨σ1,H2,I2,q2⟩
end
structure It where
 go:Nat->Hp->Prop
 yld:Nat->Hp->V->Hp->Prop
 stop:Nat->Hp->Prop
def ot(X:Cx)(pins:List (Addr×Obj))(H:Hp)(b:Addr):Prop:=
 H b=none/\b≠X.env.locals/\b∉X.fs/\(b∈X.ex\/X.s₀.heap.objs.size<=b)/\(∀x c,X.env.cells.lookup x=some c->c≠b)/\∀p∈X.pn++pins,p.1≠b
theorem Inv.fpOk{X:Cx}{pins:List (Addr×Obj)}{σ:St}{H H':Hp}{s:Shared}{b:Addr}(I:Inv X pins σ H s)(hb:s.heap.objs.size<=b)(hn:H' b=none):ot X pins H' b:=by
 refine⟨hn,Nat.ne_of_gt (F5 I.lt hb),I.nofs hb,.inr (GA I.sz hb),fun x c e z=>?_,fun p hp z=>?_⟩
 ·obtain⟨v,q⟩:=I.cell x c e;exact absurd (F5 q.lt (by rw[z];exact hb)) (HF _)
 ·exact absurd (F5 (Gf (I.pin p hp).1) (by rw[z];exact hb)) (HF _)
structure Turn(P:Program)(w:World)(K:Frag)(tg:Expr)(J:It)(fp:List Addr)(it:Addr)(tn:Nat->Heap->Prop):Prop where
 mem:it∈fp
 obj:∀i h,tn i h->∀b∈fp,∃o,h.get? b=some o/\∀v,o.data≠ .cell v
 keep:∀i h h',tn i h->(∀b∈fp,∀o,h.get? b=some o->h'.get? b=some o)->tn i h'
 item:∀(X:Cx),X.prog=P->X.w=w->X.K=K->X.calm=true->∀(i:Nat)(pins:List (Addr×Obj))(s:Shared)(σ:St)(H:Hp)(E:Value->Shared->Prop),Inv X pins σ H s->(∀b∈fp,ot X pins H b)->tn i s.heap->J.go i H->
  wpAny (model P w) X.A (pyNext (.ref it)) (fun r s1=>∃u,r=some u/\
   wpAny (model P w) X.A (letOwnedTupleGo tg (.ref it) u) (fun _ s2=>∃x H',Inv X pins σ H' s2/\RelV x u/\J.yld i H x H'/\tn (i+1) s2.heap/\∀b∈fp,H' b=none) E s1) E s
 done:∀(X:Cx),X.prog=P->X.w=w->X.K=K->X.calm=true->∀(i:Nat)(pins:List (Addr×Obj))(s:Shared)(σ:St)(H:Hp)(E:Value->Shared->Prop),Inv X pins σ H s->(∀b∈fp,ot X pins H b)->tn i s.heap->J.stop i H->
  wpAny (model P w) X.A (pyNext (.ref it)) (fun r s1=>r=none/\Inv X pins σ H s1) E s
 self:∀(A:Around)(i:Nat)(s:Shared)(Q:Value->Shared->Prop)(E:Value->Shared->Prop),tn i s.heap->Q (.ref it) s->wpAny (model P w) A (pyIter (.ref it)) Q E s
noncomputable abbrev TI:=St->Hp->(It->Hp->Prop)->Prop
def PIE(X:Cx)(pins:List (Addr×Obj))(σ:St)(tg:Expr)(R:It->Hp->Prop)(itv:Value)(s2:Shared):Prop:=
 ∃(it:Addr)(fp:List Addr)(tn:Nat->Heap->Prop)(J:It)(H':Hp),itv=.ref it/\Inv X pins σ H' s2/\Turn X.prog X.w X.K tg J fp it tn/\tn 0 s2.heap/\(∀b∈fp,ot X pins H' b)/\R J H'
def PI(X:Cx)(tg iter:Expr)(wi:TI):Prop:=
 ∀(pins:List (Addr×Obj))(s:Shared)(σ:St)(H:Hp)(R:It->Hp->Prop),Inv X pins σ H s->wi σ H R->
  wpAny (model X.prog X.w) X.A (eval iter X.env) (fun v s1=>wpAny (model X.prog X.w) X.A (pyIter v) (PIE X pins σ tg R) X.xe s1) X.xe s
theorem Az {M : Model} {A : Around} {E : Value → Shared → Prop} {s : Shared} {tg : Expr} {it : Addr} {u : Value} {o : Obj} {n : String} {vs : Array Value} {Q : Unit → Shared → Prop} (ho : s.heap.get? it = some o) (hc : o.cls = .type n) (hd : o.data = .fields vs)
    (hn : ["enumerate", "zip", "dict_itemiterator", "dict_reverseitemiterator", "odict_iterator", "itertools.zip_longest", "itertools.pairwise"].contains n = false) (hQ : Q () s) : wpAny M A (letOwnedTupleGo tg (.ref it) u) Q E s := by
  unfold letOwnedTupleGo
  cases tg <;> first
    | exact wpAny_pure hQ
    | (cases u <;> first
        | exact wpAny_pure hQ
        | (refine wpAny_bind (wpAny_load ho ?_)
           rw [hc, hd]
           show wpAny M A (if (["enumerate", "zip", "dict_itemiterator", "dict_reverseitemiterator", "odict_iterator", "itertools.zip_longest", "itertools.pairwise"].contains n && vs[0]? == some (rawInt _)) = true then _ else _) Q E s
           rw [if_neg (by intro h; rw [hn, Bool.false_and] at h; cases h)]
           exact wpAny_pure hQ))
noncomputable def Itl(K:Frag)(a:Addr):It:=
 ⟨fun i H=>∃xs x,SqL K H a xs/\xs[i]?=some x,fun i H x H'=>H'=H/\∀xs,SqL K H a xs->xs[i]?=some x,fun i H=>∃xs,SqL K H a xs/\xs.length<=i⟩
noncomputable def Itt(K:Frag)(a:Addr):It:=
 ⟨fun i H=>∃xs x,SqT K H a xs/\xs[i]?=some x,fun i H x H'=>H'=H/\∀xs,SqT K H a xs->xs[i]?=some x,fun i H=>∃xs,SqT K H a xs/\xs.length<=i⟩
noncomputable def Itr(lo:Int)(n:Nat):It:=⟨fun i _=>i<n,fun i H x H'=>H'=H/\x=.int (lo+i),fun i _=>n<=i⟩
theorem ya{P:Program}{w:World}{K:Frag}{tg:Expr}(a it:Addr):Turn P w K tg (Itl K a) [it] it (fun i h=>h.IsListIter it a i) where
 mem:=by simp
 obj:=fun i h st b hb=>by
  have e:b=it:=by simpa using hb
  subst e;obtain⟨o,e,c,d⟩:=st;exact⟨o,e,fun v z=>by rw[d]at z;cases z⟩
 keep:=fun i h h' st k=>st.at fun o e=>k it (by simp) o e
 item:=by intro X hP hw hK hc i pins s σ H E I hf st hg;subst hP hw hK;obtain⟨xs,x,hq,hx⟩:=hg;obtain⟨its,rv,p,hz⟩:=I.list hq;obtain⟨u,hu,ru⟩:=rv.get hx;obtain⟨f0,f1,f2,f3,f4,f5⟩:=hf it (by simp);refine wpAny_pyNext_list_item st p.isList (x:=u) (by simpa using hu) fun h' st' sb=>?_;have I1:Inv X pins σ H {s with heap:=h'}:=I.turned (t':=s.toks) (fun b o hb e=>(sb.2 b hb).trans e) f0 f1 f3 f4 f5;obtain⟨o,e,c,d⟩:=id st';exact⟨u,rfl,Az (s:={s with heap:=h'}) e c d (by decide) ⟨x,H,I1,ru,⟨rfl,fun ys hy=>by rw[I.list_inj hy hq];exact hx⟩,st',fun b hb=>(hf b hb).1⟩⟩
 done:=by intro X hP hw hK hc i pins s σ H E I hf st hg;subst hP hw hK;obtain⟨xs,hq,hx⟩:=hg;obtain⟨its,rv,p,hz⟩:=I.list hq;obtain⟨f0,f1,f2,f3,f4,f5⟩:=hf it (by simp);have hl:=rv.length;exact wpAny_pyNext_list_end (I.ok.hd hc) st p.isList (by simp;omega) fun h' eb=>⟨rfl,I.turned (t':=s.toks) (fun b o hb e=>eb b o hb e) f0 f1 f3 f4 f5⟩
 self:=fun _ _ _ _ _ st h=>wpAny_pyIter_listiter st h
theorem vX{P:Program}{w:World}{K:Frag}{tg:Expr}(a it:Addr):Turn P w K tg (Itt K a) [it] it (fun i h=>h.IsTupleIter it a i) where
 mem:=by simp
 obj:=fun i h st b hb=>by
  have e:b=it:=by simpa using hb
  subst e;obtain⟨o,e,c,d⟩:=st;exact⟨o,e,fun v z=>by rw[d]at z;cases z⟩
 keep:=fun i h h' st k=>st.at fun o e=>k it (by simp) o e
 item:=by intro X hP hw hK hc i pins s σ H E I hf st hg;subst hP hw hK;obtain⟨xs,x,hq,hx⟩:=hg;obtain⟨its,rv,p,hz⟩:=I.tuple hq;obtain⟨u,hu,ru⟩:=rv.get hx;obtain⟨f0,f1,f2,f3,f4,f5⟩:=hf it (by simp);refine wpAny_pyNext_tuple_item st (show s.heap.IsTuple a its.toArray from p) (x:=u) (by simpa using hu) fun h' st' sb=>?_;have I1:Inv X pins σ H {s with heap:=h'}:=I.turned (t':=s.toks) (fun b o hb e=>(sb.2 b hb).trans e) f0 f1 f3 f4 f5;obtain⟨o,e,c,d⟩:=id st';exact⟨u,rfl,Az (s:={s with heap:=h'}) e c d (by decide) ⟨x,H,I1,ru,⟨rfl,fun ys hy=>by rw[I.tuple_inj hy hq];exact hx⟩,st',fun b hb=>(hf b hb).1⟩⟩
 done:=by intro X hP hw hK hc i pins s σ H E I hf st hg;subst hP hw hK;obtain⟨xs,hq,hx⟩:=hg;obtain⟨its,rv,p,hz⟩:=I.tuple hq;obtain⟨f0,f1,f2,f3,f4,f5⟩:=hf it (by simp);have hl:=rv.length;exact wpAny_pyNext_tuple_end (I.ok.hd hc) st (show s.heap.IsTuple a its.toArray from p) (by simp;omega) fun h' eb=>⟨rfl,I.turned (t':=s.toks) (fun b o hb e=>eb b o hb e) f0 f1 f3 f4 f5⟩
 self:=fun _ _ _ _ _ st h=>wpAny_pyIter_tupleiter st h
theorem vY{P:Program}{w:World}{K:Frag}{tg:Expr}(it:Addr)(lo:Int)(n:Nat):Turn P w K tg (Itr lo n) [it] it (fun i h=>IsRangeIter h it (lo+(i:Nat)*1) ((n:Int)-(i:Nat)) 1) where
 mem:=by simp
 obj:=fun i h st b hb=>by
  have e:b=it:=by simpa using hb
  subst e
  exact⟨_,st,fun v z=>by
   have z':Data.fields _=Data.cell v:=z
   cases z'⟩
 keep:=fun i h h' st k=>k it (by simp) _ st
 item:=by intro X hP hw hK hc i pins s σ H E I hf st hg;subst hP hw hK;obtain⟨f0,f1,f2,f3,f4,f5⟩:=hf it (by simp);have W:=Walks.range (prog:=X.prog) (w:=X.w) (I.ok.hd hc) it lo 1 n;refine W.item i s _ _ hg st fun v h' tk hv st' kk=>?_;obtain⟨t,rfl⟩:=hv;have I1:Inv X pins σ H {s with heap:=h',toks:=tk}:=I.turned (fun b o hb e=>kk b o (by simpa using hb) e) f0 f1 f3 f4 f5;refine⟨_,rfl,Az (s:={s with heap:=h',toks:=tk}) (n:="range_iterator") st' rfl rfl (by decide) ⟨.int (lo+i),H,I1,⟨t,?_⟩,⟨rfl,rfl⟩,st',fun b hb=>(hf b hb).1⟩⟩;rw[Int.mul_one]
 done:=by intro X hP hw hK hc i pins s σ H E I hf st hg;subst hP hw hK;obtain⟨f0,f1,f2,f3,f4,f5⟩:=hf it (by simp);exact wpAny_pyNext_range_end (I.ok.hd hc) st (by have:n<=i:=hg;omega) fun h' eb=>⟨rfl,I.turned (t':=s.toks) (fun b o hb e=>eb b o hb e) f0 f1 f3 f4 f5⟩
 self:=fun _ _ _ _ _ st h=>wpAny_pyIter_rangeiter st h
section
variable{X:Cx}{tg:Expr}
def CV(K:Frag)(tl:TE):TI:=fun σ H R=>tl σ H fun x H1=>∃a,x=.ref a/\(∃xs,SqL K H1 a xs)/\R (Itl K a) H1
def E4(K:Frag)(tl:TE):TI:=fun σ H R=>tl σ H fun x H1=>∃a,x=.ref a/\(∃xs,SqT K H1 a xs)/\R (Itt K a) H1
theorem dE{l:Expr}{tl:TE}(hl:PE X l tl):PI X tg l (CV X.K tl):=by
 intro pins s σ H R I h;refine thn (hl pins s σ H _ I h) fun v s1 hPz=>?_;obtain⟨x,H1,I1,r1,q1⟩:=hPz;obtain⟨a,e,⟨xs,hq⟩,q⟩:=q1;subst e;cases r1;obtain⟨its,rv,p,hz⟩:=I1.list hq;refine wpAny_pyIter_list p.isList ?_;refine⟨s1.heap.objs.size,[s1.heap.objs.size],_,_,H1,rfl,I1.kept (t':=s1.toks) fun b o e=>F0 _ e,ya a _,⟨_,Gm _ rfl,rfl,rfl⟩,fun b hb=>?_,q⟩;have e:b=s1.heap.objs.size:=by simpa using hb
 subst e;exact I1.fpOk (F4 _) (I1.hok.fresh (F4 _))
theorem iq{l:Expr}{tl:TE}(hl:PE X l tl):PI X tg l (E4 X.K tl):=by
 intro pins s σ H R I h;refine thn (hl pins s σ H _ I h) fun v s1 hPz=>?_;obtain⟨x,H1,I1,r1,q1⟩:=hPz;obtain⟨a,e,⟨xs,hq⟩,q⟩:=q1;subst e;cases r1;obtain⟨its,rv,p,hz⟩:=I1.tuple hq;refine wpAny_pyIter_tuple (show s1.heap.IsTuple a its.toArray from p) ?_;refine⟨s1.heap.objs.size,[s1.heap.objs.size],_,_,H1,rfl,I1.kept (t':=s1.toks) fun b o e=>F0 _ e,vX a _,⟨_,Gm _ rfl,rfl,rfl⟩,fun b hb=>?_,q⟩;have e:b=s1.heap.objs.size:=by simpa using hb
 subst e;exact I1.fpOk (F4 _) (I1.hok.fresh (F4 _))
theorem zG{pins:List (Addr×Obj)}{σ:St}{H:Hp}{s:Shared}{R:It->Hp->Prop}{E:Value->Shared->Prop}{lo hi:Int}{t u v:Tok}{tk:Nat}(I:Inv X pins σ H s)(h1: -(2^62)<=lo)(h2:lo<2^62)(h3: -(2^62)<=hi)(h4:hi<2^62)
  (q:R (Itr lo (hi-lo).toNat) H):wpAny (model X.prog X.w) X.A (pyIter (.ref s.heap.objs.size)) (PIE X pins σ tg R) E {s with heap:=s.heap.push {cls:=.type "range",data:=.fields #[.int lo t,.int hi u,.int 1 v]},toks:=tk}:=by
 refine wpAny_pyIter_range (IsRange.new ..) (small_one h1 h2 h3 h4) ?_;have I1:Inv X pins σ H {s with heap:=s.heap.push {cls:=.type "range",data:=.fields #[.int lo t,.int hi u,.int 1 v]},toks:=tk}:=I.kept fun b o e=>F0 _ e
 refine⟨(s.heap.push {cls:=.type "range",data:=.fields #[.int lo t,.int hi u,.int 1 v]}).objs.size,[(s.heap.push {cls:=.type "range",data:=.fields #[.int lo t,.int hi u,.int 1 v]}).objs.size],_,_,H,rfl,
  I1.kept (t':=tk) fun b o e=>F0 _ e,vY _ lo (hi-lo).toNat,?_,fun b hb=>?_,q⟩
 ·have e1:lo+((0:Nat):Int)*1=lo:=by simp
  have e2:(((hi-lo).toNat:Nat):Int)-((0:Nat):Int)=Builtin.Range.rangeSize lo hi 1:=by rw[rangeSize_one];split<;>omega
  show IsRangeIter _ _ (lo+((0:Nat):Int)*1) ((((hi-lo).toNat:Nat):Int)-((0:Nat):Int)) 1;rw[e1,e2];exact Gm _ rfl
 ·have e:b=(s.heap.push {cls:=.type "range",data:=.fields #[.int lo t,.int hi u,.int 1 v]}).objs.size:=by simpa using hb
  subst e;exact I1.fpOk (F4 _) (I1.hok.fresh (F4 _))
def E5(ta:TA):TI:=fun σ H R=>ta σ H fun vs H1=>∃j:Int,vs=[.int j]/\ -(2^62)<=j/\j<2^62/\R (Itr 0 j.toNat) H1
theorem bU{a:Expr}{ta:TA}{p pos:Pos}(hg:Gl X "range")(hm:X.mg "range"=none)(ha:PA X [a] ta)(hs:starEach [a] X.env=[(false,eval a X.env)]:=by rfl):PI X tg (.Call (.Name "range" p) [a] [] pos) (E5 ta):=by
 intro pins s σ H R I h;refine Call_ (tW I hg hm boot_range (PyProof.Rows.callWith_type1 (thn (ha pos pins s σ H _ I h) fun us s1 hPz=>?_) hs rfl));obtain⟨vs,H1,I1,r1,q1⟩:=hPz;obtain⟨j,e,q1,q2,q⟩:=q1;subst e;cases r1 with
 |cons r rr=>cases rr;obtain⟨t,rfl⟩:=r;exact call_range_1 (zG I1 (by omega) (by omega) q1 q2 (by simpa using q))
def Fx(wi:TI)(g:TG)(tb:TS):TS:=fun D σ H=>wi σ H fun J H1=>∃W:Nat->Nat->St->Hp->Prop,(∃m,W 0 m σ H1)/\∀i m σ H,W i m σ H->
 (J.stop i H/\D.nx σ H)\/(J.go i H/\∃N:St->Hp->Prop,(∀σ' H',N σ' H'->∃m',m'<m/\W (i+1) m' σ' H')/\∀x H',J.yld i H x H'->g x σ H' fun σ2 H2=>tb {D with nx:=N,ct:=N,bk:=D.nx} σ2 H2)
noncomputable def pM(fp:List Addr)(h:Heap):List (Addr×Obj):=fp.filterMap fun b=>(h.get? b).map fun o=>(b,o)
theorem iX{fp:List Addr}{h:Heap}{b:Addr}{o:Obj}(hb:b∈fp)(e:h.get? b=some o):(b,o)∈pM fp h:=List.mem_filterMap.mpr ⟨b,hb,by rw[e];rfl⟩
theorem yq{fp:List Addr}{h:Heap}{p:Addr×Obj}(hp:p∈pM fp h):p.1∈fp/\h.get? p.1=some p.2:=by
 obtain⟨b,hb,e⟩:=List.mem_filterMap.mp hp;cases q:h.get? b with
 |none=>rw[q]at e;cases e
 |some o=>rw[q]at e;have e':(b,o)=p:=GB e;subst e';exact⟨hb,q⟩
theorem Inv.pinned{pins:List (Addr×Obj)}{σ:St}{H:Hp}{s:Shared}{fp:List Addr}(I:Inv X pins σ H s)(hf:∀b∈fp,ot X pins H b)(ho:∀b∈fp,∃o,s.heap.get? b=some o/\∀v,o.data≠ .cell v):Inv X (pins++pM fp s.heap) σ H s:=
 I.pins_of fun p hp=>(Gj.mp hp).elim (fun z=>I.pin p (Gx _ z)) fun z=>by obtain⟨hb,e⟩:=yq z;obtain⟨f0,f1,f2,_⟩:=hf p.1 hb;obtain⟨o,e',d⟩:=ho p.1 hb;rw[e]at e';cases e';exact⟨e,f0,f1,f2,d⟩
theorem Inv.unpinned{pins pl:List (Addr×Obj)}{σ:St}{H:Hp}{s:Shared}(I:Inv X (pins++pl) σ H s):Inv X pins σ H s:=I.pins_of fun p hp=>I.pin p (Gx _ (GC _ hp))
theorem dz{iter:Expr}{body:List Stmt}{wi:TI}{g:TG}{tb:TS}{pos:Pos}(hp:PassesOwn (model X.prog X.w) X.A X.env X.xe)(hc:X.calm=true)(hi:PI X tg iter wi)(hg:PG X tg g)(hb:PSs X body tb)
  (hs:∀x,foldedSetIterable iter X.env x=pure x:=by intro _;rfl):PS X (.For tg iter body [] pos) (Fx wi g tb):=by
 intro pins s σ H D I h;refine wpAny_For (thn (hi pins s σ H _ I h) fun v s1 h1=>thn h1 fun itv s2 h2=>?_) hs;obtain⟨it,fp,tn,J,H2,e,I2,T,st2,f2,W,⟨m0,w0⟩,turn⟩:=h2;subst e;have stat:∀{H':Hp},(∀b∈fp,H' b=none)->∀b∈fp,ot X pins H' b:=fun hn b hb=>⟨hn b hb,(f2 b hb).2⟩;refine codeAny_forLoop_any (fun n s'=>∃i σ' H',Inv X pins σ' H' s'/\tn i s'.heap/\(∀b∈fp,H' b=none)/\W i n σ' H') ?_ m0 ⟨0,σ,H2,I2,st2,fun b hb=>(f2 b hb).1,w0⟩;rintro n s3 ⟨i,σ3,H3,I3,st3,fr3,w3⟩;rcases turn i n σ3 H3 w3 with⟨stop,qn⟩|⟨go,N,hN,step⟩
 ·refine wpAny_passesOwn hp (thn (T.done X rfl rfl rfl hc i pins s3 σ3 H3 X.xe I3 (stat fr3) st3 stop) fun r s4 ⟨hr,I4⟩=>?_);subst hr;exact wpAny_execs_nil ⟨σ3,H3,I4,qn⟩
 ·refine wpAny_passesOwn hp (thn (T.item X rfl rfl rfl hc i pins s3 σ3 H3 X.xe I3 (stat fr3) st3 go) fun r s4 hPz=>?_);obtain⟨u,hr,h4⟩:=hPz;subst hr;refine wpAny_passesOwn hp (thn h4 fun _ s5 hPz=>?_);obtain⟨x,H5,I5,r5,y5,st5,fr5⟩:=hPz;have I5':=I5.pinned (stat fr5) (T.obj _ _ st5);refine wpAny_passesOwn hp (thn (hg _ s5 σ3 H5 x u _ I5' r5 (step x H5 y5)) fun _ s6 hPz=>?_);obtain⟨σ6,H6,I6,q6⟩:=hPz;refine wpAny_passesOwn hp (thn (hb _ s6 σ6 H6 _ I6 q6) fun f s7 q7=>?_);have again:∀{σ7:St}{H7:Hp},Inv X (pins++pM fp s5.heap) σ7 H7 s7->N σ7 H7->∃m,m<n/\∃i σ' H',Inv X pins σ' H' s7/\tn i s7.heap/\(∀b∈fp,H' b=none)/\W i m σ' H':=fun {σ7 H7} I7 n7=>by
   obtain⟨m',hm,w7⟩:=hN σ7 H7 n7;refine⟨m',hm,i+1,σ7,H7,I7.unpinned,T.keep _ _ _ st5 fun b hb o e=>(I7.pin (b,o) (Gx _ (Gx _ (iX hb e)))).1,fun b hb=>?_,w7⟩;obtain⟨o,e,d⟩:=T.obj _ _ st5 b hb;exact(I7.pin (b,o) (Gx _ (Gx _ (iX hb e)))).2.1
  cases f with
  |next=>obtain⟨σ7,H7,I7,n7⟩:=q7;exact again I7 n7
  |cont=>obtain⟨σ7,H7,I7,n7⟩:=q7;exact again I7 n7
  |brk=>obtain⟨σ7,H7,I7,q7⟩:=q7;exact⟨σ7,H7,I7.unpinned,q7⟩
  |ret v=>obtain⟨x7,σ7,H7,I7,r7,q7⟩:=q7;exact⟨x7,σ7,H7,I7.unpinned,r7,q7⟩
end
theorem fZ{K:Frag}{a:Addr}{xs:List V}{g:TG}{tb:TS}{D:Ends}{σ:St}{H:Hp}(Pv:Nat->St->Hp->Prop)(h0:Pv 0 σ H)(hl:∀i σ H,i<=xs.length->Pv i σ H->SqL K H a xs)
  (hs:∀i x σ H,xs[i]?=some x->Pv i σ H->g x σ H fun σ2 H2=>tb {D with nx:=Pv (i+1),ct:=Pv (i+1),bk:=D.nx} σ2 H2) (hd:∀σ H,Pv xs.length σ H->D.nx σ H):
  ∃W:Nat->Nat->St->Hp->Prop,(∃m,W 0 m σ H)/\∀i m σ H,W i m σ H->
   ((Itl K a).stop i H/\D.nx σ H)\/((Itl K a).go i H/\∃N:St->Hp->Prop,(∀σ' H',N σ' H'->∃m',m'<m/\W (i+1) m' σ' H')/\∀x H',(Itl K a).yld i H x H'->g x σ H' fun σ2 H2=>tb {D with nx:=N,ct:=N,bk:=D.nx} σ2 H2):=by
 refine⟨fun i m σ H=>m=xs.length-i/\i<=xs.length/\Pv i σ H,⟨xs.length,by simp,GO _,h0⟩,?_⟩;rintro i m σ H ⟨rfl,hi,p⟩;have q:=hl i σ H hi p;by_cases hlt:i<xs.length
 ·refine .inr ⟨⟨xs,xs[i],q,by simp[hlt]⟩,Pv (i+1),fun σ' H' p'=>⟨xs.length-(i+1),by omega,rfl,hlt,p'⟩,fun x H' y=>?_⟩;obtain⟨e,y⟩:=y;subst e;exact hs i x σ _ (y xs q) p
 ·have e:i=xs.length:=by omega
  subst e;exact .inl ⟨⟨xs,q,F4 _⟩,hd σ H p⟩
theorem i0{K:Frag}{a:Addr}{xs:List V}{g:TG}{tb:TS}{D:Ends}{σ:St}{H:Hp}(Pv:Nat->St->Hp->Prop)(h0:Pv 0 σ H)(hl:∀i σ H,i<=xs.length->Pv i σ H->SqT K H a xs)
  (hs:∀i x σ H,xs[i]?=some x->Pv i σ H->g x σ H fun σ2 H2=>tb {D with nx:=Pv (i+1),ct:=Pv (i+1),bk:=D.nx} σ2 H2) (hd:∀σ H,Pv xs.length σ H->D.nx σ H):
  ∃W:Nat->Nat->St->Hp->Prop,(∃m,W 0 m σ H)/\∀i m σ H,W i m σ H->
   ((Itt K a).stop i H/\D.nx σ H)\/((Itt K a).go i H/\∃N:St->Hp->Prop,(∀σ' H',N σ' H'->∃m',m'<m/\W (i+1) m' σ' H')/\∀x H',(Itt K a).yld i H x H'->g x σ H' fun σ2 H2=>tb {D with nx:=N,ct:=N,bk:=D.nx} σ2 H2):=by
 refine⟨fun i m σ H=>m=xs.length-i/\i<=xs.length/\Pv i σ H,⟨xs.length,by simp,GO _,h0⟩,?_⟩;rintro i m σ H ⟨rfl,hi,p⟩;have q:=hl i σ H hi p;by_cases hlt:i<xs.length
 ·refine .inr ⟨⟨xs,xs[i],q,by simp[hlt]⟩,Pv (i+1),fun σ' H' p'=>⟨xs.length-(i+1),by omega,rfl,hlt,p'⟩,fun x H' y=>?_⟩;obtain⟨e,y⟩:=y;subst e;exact hs i x σ _ (y xs q) p
 ·have e:i=xs.length:=by omega
  subst e;exact .inl ⟨⟨xs,q,F4 _⟩,hd σ H p⟩
theorem iH{lo:Int}{n:Nat}{g:TG}{tb:TS}{D:Ends}{σ:St}{H:Hp}(Pv:Nat->St->Hp->Prop)(h0:Pv 0 σ H)
  (hs:∀i σ H,i<n->Pv i σ H->g (.int (lo+i)) σ H fun σ2 H2=>tb {D with nx:=Pv (i+1),ct:=Pv (i+1),bk:=D.nx} σ2 H2) (hd:∀σ H,Pv n σ H->D.nx σ H):
  ∃W:Nat->Nat->St->Hp->Prop,(∃m,W 0 m σ H)/\∀i m σ H,W i m σ H->
   ((Itr lo n).stop i H/\D.nx σ H)\/((Itr lo n).go i H/\∃N:St->Hp->Prop,(∀σ' H',N σ' H'->∃m',m'<m/\W (i+1) m' σ' H')/\∀x H',(Itr lo n).yld i H x H'->g x σ H' fun σ2 H2=>tb {D with nx:=N,ct:=N,bk:=D.nx} σ2 H2):=by
 refine⟨fun i m σ H=>m=n-i/\i<=n/\Pv i σ H,⟨n,by simp,GO _,h0⟩,?_⟩;rintro i m σ H ⟨rfl,hi,p⟩;by_cases hlt:i<n
 ·refine .inr ⟨hlt,Pv (i+1),fun σ' H' p'=>⟨n-(i+1),by omega,rfl,hlt,p'⟩,fun x H' y=>?_⟩;obtain⟨e,y⟩:=y;subst e y;exact hs i σ _ hlt p
 ·have e:i=n:=by omega
  subst e;exact .inl ⟨F4 _,hd σ H p⟩
noncomputable abbrev R2:=V->V->Hp->VK->Prop
def OpR(X:Cx)(f:Value->Value->Sem Value)(r:R2):Prop:=
 ∀(pins:List (Addr×Obj))(s:Shared)(σ:St)(H:Hp)(x y:V)(v u:Value)(Q:VK),Inv X pins σ H s->RelV x v->RelV y u->r x y H Q->
  wpAny (model X.prog X.w) X.A (f v u) (EP X pins σ Q) X.xe s
def UnR(X:Cx)(f:Value->Sem Value)(r:V->Hp->VK->Prop):Prop:=
 ∀(pins:List (Addr×Obj))(s:Shared)(σ:St)(H:Hp)(x:V)(v:Value)(Q:VK),Inv X pins σ H s->RelV x v->r x H Q->
  wpAny (model X.prog X.w) X.A (f v) (EP X pins σ Q) X.xe s
def dU(X:Cx)(f:Value)(r:List V->Hp->VK->Prop):Prop:=
 ∀(pins:List (Addr×Obj))(s:Shared)(σ:St)(H:Hp)(xs:List V)(us:List Value)(Q:VK),Inv X pins σ H s->Vals xs us->r xs H Q->
  wpAny (model X.prog X.w) X.A (call f us) (EP X pins σ Q) X.xe s
def tOp(r:R2)(ta tb:TE):TE:=fun σ H Q=>ta σ H fun x H1=>tb σ H1 fun y H2=>r x y H2 Q
def tUn(r:V->Hp->VK->Prop)(ta:TE):TE:=fun σ H Q=>ta σ H fun x H1=>r x H1 Q
noncomputable def rI(C:Int->Int->Prop)(g:Int->Int->V):R2:=fun x y H Q=>∃i j,x=.int i/\y=.int j/\C i j/\Q (g i j) H
noncomputable def rI0(g:Int->Int->V):R2:=fun x y H Q=>∃i j,x=.int i/\y=.int j/\Q (g i j) H
def rU(g:Int->V):V->Hp->VK->Prop:=fun x H Q=>∃i,x=.int i/\Q (g i) H
section
variable{X:Cx}{a b c:Expr}{ta tb tc:TE}{pos:Pos}
theorem D9(ha:PE X a ta)(hb:PE X b tb){pins:List (Addr×Obj)}{s:Shared}{σ:St}{H:Hp}{R:V->V->Hp->Prop}(I:Inv X pins σ H s)
  (h:ta σ H fun x H1=>tb σ H1 fun y H2=>R x y H2) {Q:Value->Shared->Prop} {f:Value->Value->Sem Value}
  (hf:∀v u s2 x y H2,Inv X pins σ H2 s2->RelV x v->RelV y u->R x y H2->wpAny (model X.prog X.w) X.A (f v u) Q X.xe s2):
  wpAny (model X.prog X.w) X.A (eval a X.env) (fun v s₁=>wpAny (model X.prog X.w) X.A (eval b X.env) (fun u s₂=>wpAny (model X.prog X.w) X.A (f v u) Q X.xe s₂) X.xe s₁) X.xe s:=by
 refine thn (ha pins s σ H _ I h) fun v s1 hPz=>?_;obtain⟨x,H1,I1,r1,q1⟩:=hPz;refine thn (hb pins s1 σ H1 _ I1 q1) fun u s2 hPz=>?_;obtain⟨y,H2,I2,r2,q2⟩:=hPz;exact hf v u s2 x y H2 I2 r1 r2 q2
theorem au{op:Operator}{r:R2}(ho:OpR X (binaryOp op) r)(ha:PE X a ta)(hb:PE X b tb):PE X (.BinOp a op b pos) (tOp r ta tb):=by intro pins s σ H Q I h;exact wpAny_BinOp (D9 ha hb I h fun v u s2 x y H2 I2 rx ry q=>ho pins s2 σ H2 x y v u Q I2 rx ry q)
theorem EU{op:UnaryOp}{r:V->Hp->VK->Prop}(ho:UnR X (unaryOp op) r)(ha:PE X a ta):PE X (.UnaryOp op a pos) (tUn r ta):=by intro pins s σ H Q I h;exact UnaryOp_ (thn (ha pins s σ H _ I h) fun v s1 hPz=>L2.ep3 hPz fun x H1 I1 r1 q1=>ho pins s1 σ H1 x v Q I1 r1 q1)
theorem opI{f:Value->Value->Sem Value}{C:Int->Int->Prop}{g:Int->Int->Int}
  (rule:∀(i j:Int)(t u:Tok)(s:Shared)(Q:Value->Shared->Prop)(E:Value->Shared->Prop),C i j->Q (.int (g i j) s.toks) {s with toks:=s.toks+1}->wpAny (model X.prog X.w) X.A (f (.int i t) (.int j u)) Q E s):
  OpR X f (rI C fun i j=>.int (g i j)):=by
 intro pins s σ H x y v u Q I rx ry h;obtain⟨i,j,rfl,rfl,hc,q⟩:=h;obtain⟨t,rfl⟩:=rx;obtain⟨t',rfl⟩:=ry;exact rule i j t t' s _ _ hc ⟨.int (g i j),H,I.tok _,⟨_,rfl⟩,q⟩
theorem Ac{f:Value->Value->Sem Value}{g:Int->Int->Int}
  (rule:∀(i j:Int)(t u:Tok)(s:Shared)(Q:Value->Shared->Prop)(E:Value->Shared->Prop),Q (.int (g i j) s.toks) {s with toks:=s.toks+1}->wpAny (model X.prog X.w) X.A (f (.int i t) (.int j u)) Q E s):
  OpR X f (rI0 fun i j=>.int (g i j)):=by
 intro pins s σ H x y v u Q I rx ry h;obtain⟨i,j,rfl,rfl,q⟩:=h;obtain⟨t,rfl⟩:=rx;obtain⟨t',rfl⟩:=ry;exact rule i j t t' s _ _ ⟨.int (g i j),H,I.tok _,⟨_,rfl⟩,q⟩
theorem BN{f:Value->Value->Sem Value}{g:Int->Int->Bool}
  (rule:∀(i j:Int)(t u:Tok)(s:Shared)(Q:Value->Shared->Prop)(E:Value->Shared->Prop),Q (.bool (g i j)) s->wpAny (model X.prog X.w) X.A (f (.int i t) (.int j u)) Q E s):
  OpR X f (rI0 fun i j=>.bl (g i j)):=by
 intro pins s σ H x y v u Q I rx ry h;obtain⟨i,j,rfl,rfl,q⟩:=h;obtain⟨t,rfl⟩:=rx;obtain⟨t',rfl⟩:=ry;exact rule i j t t' s _ _ ⟨.bl (g i j),H,I,rfl,q⟩
def FX(i j:Int):Prop:=0<j/\j<1073741824
def Fh(i j:Int):Prop:=0<=j/\j<=1000000/\i.natAbs<2^64
def Ef(i j:Int):Prop:=(-(2^64)<i/\i<2^64)\/(-(2^64)<j/\j<2^64)
theorem Ef.ok{i j:Int}(h:Ef i j):IntMulOk i j:=by
 rcases h with⟨h1,h2⟩|⟨h1,h2⟩
 ·exact .of_left (intBits_le_64 h1 h2)
 ·exact .of_right (intBits_le_64 h1 h2)
theorem two_pow_nn(k:Nat):(0:Int)<=2^k:=by rw[two_pow_cast];exact Int.natCast_nonneg _
theorem aY:OpR X (binaryOp .Add) (rI0 fun i j=>.int (i+j)):=Ac fun _ _ _ _ _ _ _ q=>add_int q
theorem dB:OpR X (binaryOp .Sub) (rI0 fun i j=>.int (i-j)):=Ac fun _ _ _ _ _ _ _ q=>sub_int q
theorem bX:OpR X (binaryOp .Mult) (rI Ef fun i j=>.int (i*j)):=opI fun _ _ _ _ _ _ _ hc q=>mul_int q hc.ok
theorem bV:OpR X (binaryOp .FloorDiv) (rI FX fun i j=>.int (i / j)):=opI fun i j _ _ _ _ _ hc q=>by have h1:(0:Int)<j:=hc.1;have h2:j<1073741824:=hc.2;exact floordiv_int (by omega) (by rw[Int.fdiv_eq_ediv_of_nonneg i (by omega)];exact q) (.inl (PyProof.noPylong_small (by omega)))
theorem bf:OpR X (binaryOp .Mod) (rI (fun _ j=>0<j) fun i j=>.int (i % j)):=opI fun i j _ _ _ _ _ hc q=>by have h1:(0:Int)<j:=hc;exact mod_int' (by omega) (by rw[Int.fmod_eq_emod_of_nonneg i (by omega)];exact q)
theorem xC:OpR X (binaryOp .Mod) (rI (fun _ j=>j≠0) fun i j=>.int (i.fmod j)):=opI fun _ _ _ _ _ _ _ hc q=>mod_int' hc q
theorem gc:OpR X (binaryOp .Pow) (rI Fh fun i j=>.int (i^j.toNat)):=opI fun _ _ _ _ _ _ _ hc q=>pow_int_small hc.1 hc.2.1 hc.2.2 q
theorem fJ:OpR X (binaryOp .LShift) (rI Fh fun i j=>.int (i*2^j.toNat)):=opI fun _ _ _ _ _ _ _ hc q=>lshift_int_small hc.1 hc.2.1 hc.2.2 q
theorem Dz:OpR X (binaryOp .RShift) (rI (fun _ j=>0<=j) fun i j=>.int (i / 2^j.toNat)):=opI fun i j _ _ _ _ _ hc q=>rshift_int hc (by rw[Int.fdiv_eq_ediv_of_nonneg i (two_pow_nn _)];exact q)
theorem Ab:OpR X (binaryOp .BitAnd) (rI0 fun i j=>.int (Builtin.bitAnd i j)):=Ac fun _ _ _ _ _ _ _ q=>and_int q
theorem CN:OpR X (binaryOp .BitOr) (rI0 fun i j=>.int (Builtin.bitOr i j)):=Ac fun _ _ _ _ _ _ _ q=>or_int q
theorem zY:OpR X (binaryOp .BitXor) (rI0 fun i j=>.int (Builtin.bitXor i j)):=Ac fun _ _ _ _ _ _ _ q=>xor_int q
theorem unI{f:Value->Sem Value}{g:Int->Int}
  (rule:∀(i:Int)(t:Tok)(s:Shared)(Q:Value->Shared->Prop)(E:Value->Shared->Prop),Q (.int (g i) s.toks) {s with toks:=s.toks+1}->wpAny (model X.prog X.w) X.A (f (.int i t)) Q E s):
  UnR X f (rU fun i=>.int (g i)):=by
 intro pins s σ H x v Q I rx h;obtain⟨i,rfl,q⟩:=h;obtain⟨t,rfl⟩:=rx;exact rule i t s _ _ ⟨.int (g i),H,I.tok _,⟨_,rfl⟩,q⟩
theorem C7:UnR X (unaryOp .USub) (rU fun i=>.int (-i)):=unI fun _ _ _ _ _ q=>neg_int q
end
noncomputable def ED:V->V->Bool
 | .non,.non=>true| .non,.int _=>true| .int _,.non=>true| .non,.bl _=>true| .bl _,.non=>true| .non,.str _=>true| .str _,.non=>true
 | .int _,.int _=>true| .bl _,.bl _=>true| .str _,.str _=>true| .byt _,.byt _=>true
 | .int _,.str _=>true| .str _,.int _=>true| .bl _,.str _=>true| .str _,.bl _=>true
 |_,_=>false
noncomputable def rEq:R2:=fun x y H Q=>ED x y=true/\Q (.bl (decide (x=y))) H
noncomputable def rNe:R2:=fun x y H Q=>ED x y=true/\Q (.bl (!decide (x=y))) H
theorem xT{i j:Int}:decide (V.int i=V.int j)=(i==j):=by rw[Hz];simp
theorem AR{i j:Bool}:decide (V.bl i=V.bl j)=(i==j):=by rw[Hz];simp
theorem xS{i j:Str}:decide (V.str i=V.str j)=(i==j):=by rw[Hz];simp
theorem xU{i j:Array UInt8}:decide (V.byt i=V.byt j)=(i.toList==j.toList):=by rw[Hz];cases i;cases j;simp
section
variable{X:Cx}{a b c:Expr}{ta tb tc:TE}{pos:Pos}
theorem bz{pins:List (Addr×Obj)}{σ:St}{H:Hp}{s:Shared}{Q:VK}{k k':Bool}(I:Inv X pins σ H s)(q:Q (.bl k) H)(e:k=k'):EP X pins σ Q (.bool k') s:=by subst e;exact⟨.bl k,H,I,rfl,q⟩
theorem ck:OpR X (compareOp .Eq) rEq:=by
 intro pins s σ H x y v u Q I rx ry h;obtain⟨hs,q⟩:=h;cases x with
 |non=>
  cases rx;cases y with
  |non=>cases ry;exact PySem.EqNone.eq_none_none (bz I q (by simp))
  |bl j=>cases ry;exact PySem.EqNone.eq_none_bool (bz I q (by simp))
  |int j=>obtain⟨t',rfl⟩:=ry;exact PySem.EqNone.eq_none_int (bz I q (by simp))
  |str j=>obtain⟨t',rfl⟩:=ry;exact PySem.EqNone.eq_none_str (bz I q (by simp))
  |_=>exact absurd (show false=true from hs) Gv
 |bl i=>
  cases rx;cases y with
  |non=>cases ry;exact PySem.EqNone.eq_bool_none (bz I q (by simp))
  |bl j=>cases ry;exact eq_bool (bz I q AR)
  |str j=>obtain⟨t',rfl⟩:=ry;exact PySem.EqMixed.eq_bool_str (bz I q (by simp))
  |_=>exact absurd (show false=true from hs) Gv
 |int i=>
  obtain⟨t,rfl⟩:=rx;cases y with
  |non=>cases ry;exact PySem.EqNone.eq_int_none (bz I q (by simp))
  |int j=>obtain⟨t',rfl⟩:=ry;exact eq_int (bz I q xT)
  |str j=>obtain⟨t',rfl⟩:=ry;exact PySem.EqMixed.eq_int_str (bz I q (by simp))
  |_=>exact absurd (show false=true from hs) Gv
 |str i=>
  obtain⟨t,rfl⟩:=rx;cases y with
  |non=>cases ry;exact PySem.EqNone.eq_str_none (bz I q (by simp))
  |bl j=>cases ry;exact PySem.EqMixed.eq_str_bool (bz I q (by simp))
  |int j=>obtain⟨t',rfl⟩:=ry;exact PySem.EqMixed.eq_str_int (bz I q (by simp))
  |str j=>obtain⟨t',rfl⟩:=ry;exact eq_str (bz I q xS)
  |_=>exact absurd (show false=true from hs) Gv
 |byt i=>
  obtain⟨t,rfl⟩:=rx;cases y with
  |byt j=>obtain⟨t',rfl⟩:=ry;exact PySem.W.eq_bytes (bz I q xU)
  |_=>exact absurd (show false=true from hs) Gv
 |_=>cases y<;>exact absurd (show false=true from hs) Gv
theorem kB:OpR X (compareOp .NotEq) rNe:=by
 intro pins s σ H x y v u Q I rx ry h;obtain⟨hs,q⟩:=h;cases x with
 |non=>
  cases rx;cases y with
  |non=>cases ry;exact PySem.EqNone.ne_none_none (bz I q (by simp))
  |bl j=>cases ry;exact PySem.EqNone.ne_none_bool (bz I q (by simp))
  |int j=>obtain⟨t',rfl⟩:=ry;exact PySem.EqNone.ne_none_int (bz I q (by simp))
  |str j=>obtain⟨t',rfl⟩:=ry;exact PySem.EqNone.ne_none_str (bz I q (by simp))
  |_=>exact absurd (show false=true from hs) Gv
 |bl i=>
  cases rx;cases y with
  |non=>cases ry;exact PySem.EqNone.ne_bool_none (bz I q (by simp))
  |bl j=>cases ry;exact ne_bool (bz I q (congrArg not AR))
  |str j=>obtain⟨t',rfl⟩:=ry;exact PySem.EqMixed.ne_bool_str (bz I q (by simp))
  |_=>exact absurd (show false=true from hs) Gv
 |int i=>
  obtain⟨t,rfl⟩:=rx;cases y with
  |non=>cases ry;exact PySem.EqNone.ne_int_none (bz I q (by simp))
  |int j=>obtain⟨t',rfl⟩:=ry;exact ne_int (bz I q (congrArg not xT))
  |str j=>obtain⟨t',rfl⟩:=ry;exact PySem.EqMixed.ne_int_str (bz I q (by simp))
  |_=>exact absurd (show false=true from hs) Gv
 |str i=>
  obtain⟨t,rfl⟩:=rx;cases y with
  |non=>cases ry;exact PySem.EqNone.ne_str_none (bz I q (by simp))
  |bl j=>cases ry;exact PySem.EqMixed.ne_str_bool (bz I q (by simp))
  |int j=>obtain⟨t',rfl⟩:=ry;exact PySem.EqMixed.ne_str_int (bz I q (by simp))
  |str j=>obtain⟨t',rfl⟩:=ry;exact ne_str (bz I q (congrArg not xS))
  |_=>exact absurd (show false=true from hs) Gv
 |byt i=>
  obtain⟨t,rfl⟩:=rx;cases y with
  |byt j=>obtain⟨t',rfl⟩:=ry;exact PySem.W.ne_bytes (bz I q (congrArg not xU))
  |_=>exact absurd (show false=true from hs) Gv
 |_=>cases y<;>exact absurd (show false=true from hs) Gv
theorem kC:OpR X (compareOp .Lt) (rI0 fun i j=>.bl (decide (i<j))):=BN fun _ _ _ _ _ _ _ q=>lt_int q
theorem CO:OpR X (compareOp .LtE) (rI0 fun i j=>.bl (decide (i<=j))):=BN fun _ _ _ _ _ _ _ q=>le_int q
theorem jG:OpR X (compareOp .Gt) (rI0 fun i j=>.bl (decide (j<i))):=BN fun _ _ _ _ _ _ _ q=>gt_int q
theorem zZ:OpR X (compareOp .GtE) (rI0 fun i j=>.bl (decide (j<=i))):=BN fun _ _ _ _ _ _ _ q=>ge_int q
theorem mU:OpR X (compareOp .Is) (fun x y H Q=>y=.non/\Q (.bl (decide (x=.non))) H):=by
 intro pins s σ H x y v u Q I rx ry h;obtain⟨rfl,q⟩:=h;cases ry;refine is_none_gen (bz I q ?_);cases x<;>first
  |(cases rx;rfl)
  |(obtain⟨t,rfl⟩:=rx;rfl)
theorem jR:OpR X (compareOp .IsNot) (fun x y H Q=>y=.non/\Q (.bl (!decide (x=.non))) H):=by
 intro pins s σ H x y v u Q I rx ry h;obtain⟨rfl,q⟩:=h;cases ry;refine isnot_none_gen (bz I q ?_);cases x<;>first
  |(cases rx;rfl)
  |(obtain⟨t,rfl⟩:=rx;rfl)
theorem aI(b:Expr){op:CmpOp}(h:op≠ .In:=by decide)(h2:op≠ .NotIn:=by decide):behindInMarks op b=false:=by
 have e1:(op==CmpOp.In)=false:=by cases op<;>first|rfl|exact absurd rfl h
 have e2:(op==CmpOp.NotIn)=false:=by cases op<;>first|rfl|exact absurd rfl h2
 cases b<;>simp[behindInMarks,e1,e2]
theorem bJ{op:CmpOp}{r:R2}(ho:OpR X (compareOp op) r)(ha:PE X a ta)(hb:PE X b tb)(hm:behindInMarks op b=false):PE X (.Compare a [op] [b] pos) (tOp r ta tb):=by intro pins s σ H Q I h;exact wpAny_Compare1 (D9 ha hb I h fun v u s2 x y H2 I2 rx ry q=>ho pins s2 σ H2 x y v u Q I2 rx ry q) hm
def En(t:TE):TT:=fun σ H Q=>t σ H fun x H'=>∃k,x=.bl k/\Q k H'
theorem aJ{op:CmpOp}{r:R2}(ho:OpR X (compareOp op) r)(ha:PE X a ta)(hb:PE X b tb)(hm:behindInMarks op b=false):PT X (.Compare a [op] [b] pos) (En (tOp r ta tb)):=by
 intro pins s σ H Q I h
 refine wpAny_isTrue_Compare1 (thn (ha pins s σ H _ I h) fun v s1 hPz=>L2.ep3 hPz fun x H1 I1 r1 q1=>thn (hb pins s1 σ H1 _ I1 q1) fun u s2 ⟨y,H2,I2,r2,q2⟩=>thn (ho pins s2 σ H2 x y v u _ I2 r1 r2 q2) fun c s3 ⟨z,H3,I3,r3,k,e,q3⟩=>?_) hm
 subst e;cases r3;exact wpAny_truthy_bool ⟨H3,I3,q3⟩
theorem qf:(sizeLine:Nat)<2^63:=by rw[Hm];decide
theorem pQ:OpR X (binaryOp .Add) (fun x y H Q=>∃i j,x=.str i/\y=.str j/\i.length+j.length<=sizeLine/\Q (.str (i++j)) H):=by intro pins s σ H x y v u Q I rx ry h;obtain⟨i,j,rfl,rfl,hz,q⟩:=h;obtain⟨t,rfl⟩:=rx;obtain⟨t',rfl⟩:=ry;exact add_str (fun t' tk=>⟨.str (i++j),H,I.tok _,⟨_,rfl⟩,q⟩) hz
theorem vals1{x:V}{us:List Value}(r:Vals [x] us):∃u,us=[u]/\RelV x u:=by
 cases r with
 |cons r1 r2=>cases r2;exact⟨_,rfl,r1⟩
theorem vals2{x y:V}{us:List Value}(r:Vals [x,y] us):∃u w',us=[u,w']/\RelV x u/\RelV y w':=by
 cases r with
 |cons r1 r2=>
  cases r2 with
  |cons r3 r4=>cases r4;exact⟨_,_,rfl,r1,r3⟩
theorem vK:dU X (.builtin "abs") (fun xs H Q=>∃i,xs=[.int i]/\Q (.int (if i<0 then-i else i)) H):=by intro pins s σ H xs us Q I r h;obtain⟨i,rfl,q⟩:=h;obtain⟨u,rfl,t,rfl⟩:=vals1 r;exact call_abs_int fun u tk=>⟨.int (if i<0 then-i else i),H,I.tok _,⟨_,rfl⟩,q⟩
theorem yS(hc:X.calm=true):dU X (.builtin "max") (fun xs H Q=>∃i j,xs=[.int i,.int j]/\Q (.int (if j>i then j else i)) H):=by
 intro pins s σ H xs us Q I r h;obtain⟨i,j,rfl,q⟩:=h;obtain⟨u,w',rfl,⟨t,rfl⟩,⟨t',rfl⟩⟩:=vals2 r;refine max_two_ints (I.ok.hd hc) fun h' tk k=>⟨_,H,I.kept k,?_,q⟩;by_cases hj:j>i
 ·rw[F8 hj,F8 hj];exact⟨_,rfl⟩
 ·rw[F6 hj,F6 hj];exact⟨_,rfl⟩
theorem yQ(hc:X.calm=true):dU X (.builtin "min") (fun xs H Q=>∃i j,xs=[.int i,.int j]/\Q (.int (if j<i then j else i)) H):=by
 intro pins s σ H xs us Q I r h;obtain⟨i,j,rfl,q⟩:=h;obtain⟨u,w',rfl,⟨t,rfl⟩,⟨t',rfl⟩⟩:=vals2 r;refine min_two_ints (I.ok.hd hc) fun h' tk k=>⟨_,H,I.kept k,?_,q⟩;by_cases hj:j<i
 ·rw[F8 hj,F8 hj];exact⟨_,rfl⟩
 ·rw[F6 hj,F6 hj];exact⟨_,rfl⟩
theorem nu:dU X (.type "int") (fun xs H Q=>(∃i,xs=[.int i]/\Q (.int i) H)\/∃k,xs=[.bl k]/\Q (.int (if k then 1 else 0)) H):=by
 intro pins s σ H xs us Q I r h;rcases h with⟨i,rfl,q⟩|⟨k,rfl,q⟩
 ·obtain⟨u,rfl,t,rfl⟩:=vals1 r;exact call_int_int ⟨.int i,H,I,⟨_,rfl⟩,q⟩
 ·obtain⟨u,rfl,r1⟩:=vals1 r;cases r1;exact call_int_bool ⟨.int (if k then 1 else 0),H,I.tok _,⟨_,rfl⟩,q⟩
end
structure xb(h:Heap)(x dx C:Addr)(mA:Str->Option Value):Prop where
 obj:h.get? x=some (PySem.W.instObj C dx)
 ns:h.Ns1 dx mA
 ne:dx≠x
theorem si{h:Heap}{dx:Addr}{mA:Str->Option Value}(n:h.Ns1 dx mA):∃od,h.get? dx=some od/\∀name,PySem.W.lookIn name od=some (mA name):=by
 obtain⟨o,es,ep,ho,hd,hk,_,hm⟩:=n;refine⟨o,ho,fun name=>?_⟩;have e:=hm name;unfold nsFind findBy at e;rw[<-Array.find?_toList]at e;unfold PySem.W.lookIn;rw[hd];dsimp only;split
 ·rename_i y q;rw[q]at e;exact congrArg some e
 ·rename_i q;rw[q]at e;have a:es.toList.any (·.refKey)=false:=by
   rw[List.any_eq_false];intro y hy;obtain⟨z,t,hkey⟩:=hk y (Array.mem_toList_iff.mp hy);simp[DictEntry.refKey,hkey]
  have a':¬es.toList.any (·.refKey)=true:=by rw[a];exact Gv
  rw[F6 a'];exact congrArg some e
theorem xb.look{h:Heap}{x dx C:Addr}{mA:Str->Option Value}(I:xb h x dx C mA):∃od,PySem.W.InstAt h x (PySem.W.instObj C dx) C (some od)/\∀name,PySem.W.lookIn name od=some (mA name):=
 let ⟨od,ho,hl⟩:=si I.ns
 ⟨od,⟨I.obj,rfl,rfl,ho⟩,hl⟩
section
variable{prog:Program}{w:World}{A:Around}{E:Value->Shared->Prop}{s:Shared}{K:Frag}{x dx C f:Addr}{mA:Str->Option Value}{name:Str}{v:Value}
theorem get_map{expr:Bool}{Q:Value->Shared->Prop}(X:K.In s.heap)(I:xb s.heap x dx C mA)(hg:PySem.W.plainGet K C name=true)(hh:PySem.W.hasDictIn K C=true)
  (ha:findIn K (.ref C) name=some none) (hv:mA name=some v) (hv':PySem.W.handedIn v=true) (h:Q v {s with toks:=s.toks+1}):
  wpAny (model prog w) A (getAttr (.ref x) name expr) Q E s:=by
 obtain⟨od,J,hl⟩:=I.look;exact PySem.W.get_value X J (PySem.W.plainGet_of hg).1 (PySem.W.findObj_own hh ha rfl (by rw[hl,hv])) hv' h
theorem AA{pl:Sem Bool}{Q:Value×List Value->Shared->Prop}(X:K.In s.heap)(I:xb s.heap x dx C mA)(hg:PySem.W.plainGet K C name=true)
  (hf:findIn K (.ref C) name=some (some (.ref f))) (ht:PySem.W.isFn K (.ref f)=true) (hv:mA name=none) (h:Q (.ref f,[.ref x]) s):
  wpAny (model prog w) A (getMethod (.ref x) name pl) Q E s:=by
 obtain⟨od,J,hl⟩:=I.look;exact PySem.W.method_fn X J (PySem.W.plainGet_of hg).1 (PySem.W.plainGet_of hg).2 hf (HC.mp ht) (by show(PySem.W.lookIn name od).map (·.isSome)=some false;rw[hl,hv];rfl) h
theorem Bs{ns:List Str}{Q:Unit->Shared->Prop}(X:K.In s.heap)(I:xb s.heap x dx C mA)
  (hs:findIn K (.ref C) "__setattr__"=some (some (.builtin "object.__setattr__"))) (hp:PySem.W.plainOver K C=true) (ht:PySem.W.takerIn K C name=some none) (hh:PySem.W.hasDictIn K C=true)
  (hw:PySem.Within mA ns) (hsz:ns.length<=sizeLine)
  (h:∀h',xb h' x dx C (fun y=>if y=name then some v else mA y)->Heap.SameBut dx s.heap h'->Q () {s with heap:=h',toks:=s.toks+2}):
  wpAny (model prog w) A (setAttr (.ref x) name v) Q E s:=by
 obtain⟨od,J,hl⟩:=I.look;refine PySem.W.set_plain X J hs (PySem.W.osa_open (s:={s with toks:=s.toks+1}) (r:=none) X J hp ht fun b=>?_);obtain⟨cd,hc,hd'⟩:=PySem.W.any_some hh;have hx:s.heap.get? x=some ⟨.ref C,some dx,.plain,#[]⟩:=I.obj;refine FZ (F3 (FZ (FZ (wpAny_loadPart hx (FZ (PySem.W.Looks.here (s:={s with toks:=s.toks+1}) (PySem.W.looks_clsIn X hc) ?_))))));rw[hd'];refine F3 (a:=some dx) (FZ (F3 (FZ ?_)));refine wpAny_nsSet1 (s:={s with toks:=s.toks+1}) I.ns fun h' hn2 hs2=>?_;obtain⟨oD,esD,epD,hoD,hdD,hcD⟩:=hn2.count (PySem.Within.cons name v hw);refine FZ (wpAny_lookBehind hoD (by rw[hdD];exact pastItsLine_dict (GA hcD (by rw[Gs];omega))) ?_);exact F3 (h _ ⟨(hs2.2 _ (Hg I.ne)).trans I.obj,hn2,I.ne⟩ hs2)
theorem Ak{R:Result->Shared->Prop}{vs:List Value}{kw:List (Str×Value)}(X:K.In s.heap)(hm:PySem.W.makesIn K C=true)
  (hi:findIn K (.ref C) "__init__"=some (some (.ref f))) (hf:PySem.W.typeIn K (.ref f)=some (.type "function"))
  (h:codeAny (model prog w) (A.under (.builtin "type.__call__" ⟨.ref C::vs,kw⟩)) (.call (.ref f) ⟨.ref (s.heap.objs.size+1)::vs,kw⟩) (PySem.W.InitBack (s.heap.objs.size+1) R) {s with heap:=(s.heap.push PySem.W.emptyDict).push (PySem.W.instObj C s.heap.objs.size)}):
  codeAny (model prog w) A (.call (.ref C) ⟨vs,kw⟩) R s:=by
 obtain⟨hh,g,d,t,os⟩:=s;exact PySem.W.make_core (PySem.W.makes_of X hm) (PySem.W.looks_findIn X hi) (fun self=>PySem.W.bind_fn X self hf) (.inl rfl) h
end
noncomputable def kc(f:Str)(v:V):List (Str×V)->List (Str×V)
 | []=>[(f,v)]
 |(g,x)::r=>if g=f then(g,v)::r else(g,x)::kc f v r
theorem nS(f g:Str)(v:V):∀fs:List (Str×V),(kc f v fs).lookup g=if g=f then some v else fs.lookup g
 | []=>by
  show List.lookup g [(f,v)]=_;by_cases h:g=f
  ·have hb:(g==f)=true:=HC.mpr h;simp only[List.lookup,hb,F8 h]
  ·have hb:(g==f)=false:=G6.mpr h;simp only[List.lookup,hb,F6 h]
 |(k,x)::r=>by
  have ih:=nS f g v r;rw[show kc f v ((k,x)::r)=(if k=f then(k,v)::r else(k,x)::kc f v r)from rfl];by_cases hk:k=f
  ·rw[F8 hk];by_cases h:g=k
   ·have hb:(g==k)=true:=HC.mpr h;simp only[List.lookup,hb,F8 (h.trans hk)]
   ·have hb:(g==k)=false:=G6.mpr h;simp only[List.lookup,hb,F6 (fun e:g=f=>h (e.trans hk.symm))]
  ·rw[F6 hk];by_cases h:g=k
   ·have hb:(g==k)=true:=HC.mpr h;simp only[List.lookup,hb,F6 (fun e:g=f=>hk (h.symm.trans e))]
   ·have hb:(g==k)=false:=G6.mpr h;simp only[List.lookup,hb];exact ih
theorem m8(f:Str)(v:V):∀fs:List (Str×V),f∈(kc f v fs).map (·.1)/\∀g,g∈fs.map (·.1)->g∈(kc f v fs).map (·.1)
 | []=>⟨by simp[kc],fun g h=>by simp at h⟩
 |(k,x)::r=>by
  obtain⟨i1,i2⟩:=m8 f v r;rw[show kc f v ((k,x)::r)=(if k=f then(k,v)::r else(k,x)::kc f v r)from rfl];by_cases hk:k=f
  ·rw[F8 hk];subst hk;exact⟨by simp,fun g h=>by simpa using h⟩
  ·rw[F6 hk];refine⟨?_,fun g h=>?_⟩
   ·rw[F9];exact F1 _ i1
   ·rw[F9]at h ⊢;rcases Gg.mp h with e|e
    ·exact Gg.mpr (.inl e)
    ·exact F1 _ (i2 g e)
theorem nT(f:Str)(v:V):∀fs:List (Str×V),(kc f v fs).length<=fs.length+1
 | []=>by simp[kc]
 |(k,x)::r=>by
  have ih:=nT f v r;rw[show kc f v ((k,x)::r)=(if k=f then(k,v)::r else(k,x)::kc f v r)from rfl];by_cases hk:k=f
  ·rw[F8 hk,Gs,Gs];omega
  ·rw[F6 hk,Gs,Gs];omega
theorem gY.some_of{v:V}{o:Option Value}(r:gY (some v) o):∃u,o=some u/\RelV v u:=by
 cases o with
 |none=>exact(show False from r).elim
 |some u=>exact⟨u,rfl,r⟩
theorem gY.none_of{o:Option Value}(r:gY none o):o=none:=by
 cases o with
 |none=>rfl
 |some u=>exact(show False from r).elim
theorem sk{v:V}{u:Value}(r:RelV v u):PySem.W.handedIn u=true:=by
 cases v with
 |non=>cases (show u=Value.none from r);rfl
 |bl b=>cases (show u=Value.bool b from r);rfl
 |int i=>obtain⟨t,e⟩:=(show ∃t,u=Value.int i t from r);cases e;rfl
 |str x=>obtain⟨t,e⟩:=(show ∃t,u=Value.str x t from r);cases e;rfl
 |byt b=>obtain⟨t,e⟩:=(show ∃t,u=Value.bytes b t from r);cases e;rfl
 |flt b=>obtain⟨t,e⟩:=(show ∃t,u=Value.float b t from r);cases e;rfl
 |ref a=>cases (show u=Value.ref a from r);rfl
 |ty n=>cases (show u=Value.type n from r);rfl
section
variable{P:Program}{w:World}{H H':Hp}{h h':Heap}{a C dx:Addr}{fs fs':List (Str×V)}
theorem oE(hok:HOk P w H h)(e:H a=some (.ins C dx fs)):∃mA,xb h a dx C mA/\(∀f,gY (fs.lookup f) (mA f))/\PySem.Within mA (fs.map (·.1))/\fs.length<=1000/\H dx=some (.own a):=by obtain⟨d,z,ne,ob,mA,n,r,q⟩:=(show bN P w H h a (.ins C dx fs)from hok a _ e);exact⟨mA,⟨ob,n,ne⟩,r,q,z,d⟩
end
structure Cls(K:Frag)(C:Addr):Prop where
 pg:PySem.W.plainGet K C Str.empty=true
 hd:PySem.W.hasDictIn K C=true
 po:PySem.W.plainOver K C=true
 sa:findIn K (.ref C) "__setattr__"=some (some (.builtin "object.__setattr__"))
theorem Cls.get{K:Frag}{C:Addr}(c:Cls K C)(f:Str):PySem.W.plainGet K C f=true:=c.pg
def bu(K:Frag)(C:Addr)(f:Str):Prop:=findIn K (.ref C) f=some none
theorem bu.taker{K:Frag}{C:Addr}{f:Str}(n:bu K C f):PySem.W.takerIn K C f=some none:=by unfold PySem.W.takerIn;rw[show findIn K (.ref C) f=some none from n];rfl
structure Meth(K:Frag)(C:Addr)(m:Str)(f:Addr):Prop where
 at_:findIn K (.ref C) m=some (some (.ref f))
 fn:PySem.W.isFn K (.ref f)=true
 kp:keepIn K (.ref f)=true
section
variable{X:Cx}{pins:List (Addr×Obj)}{σ:St}{H:Hp}{s:Shared}{a C dx:Addr}{fs:List (Str×V)}{f:Str}{v:V}{A:Around}{E:Value->Shared->Prop}
theorem wQ{b:Bool}{Q:Value->Shared->Prop}(I:Inv X pins σ H s)(e:H a=some (.ins C dx fs))(c:Cls X.K C)(n:bu X.K C f)(l:fs.lookup f=some v)
  (h:∀u s',Inv X pins σ H s'->RelV v u->Q u s'):wpAny (model X.prog X.w) A (getAttr (.ref a) f b) Q E s:=by
 obtain⟨mA,O,r,_,_,_⟩:=oE I.hok e;obtain⟨u,hu,ru⟩:=gY.some_of (v:=v) (o:=mA f) (by rw[<-l];exact r f);exact get_map I.kIn O (c.get f) c.hd n hu (sk ru) (h u _ (I.tok _) ru)
theorem wO{m:Str}{g:Addr}{pl:Sem Bool}{Q:Value×List Value->Shared->Prop}(I:Inv X pins σ H s)(e:H a=some (.ins C dx fs))(c:Cls X.K C)(k:Meth X.K C m g)(l:fs.lookup m=none)
  (h:Q (.ref g,[.ref a]) s):wpAny (model X.prog X.w) A (getMethod (.ref a) m pl) Q E s:=by
 obtain⟨mA,O,r,_,_,_⟩:=oE I.hok e;have hn:mA m=none:=gY.none_of (by rw[<-l];exact r m);exact AA I.kIn O (c.get m) k.at_ k.fn hn h
theorem wa{y:V}{u:Value}{Q:Unit->Shared->Prop}(I:Inv X pins σ H s)(e:H a=some (.ins C dx fs))(c:Cls X.K C)(n:bu X.K C f)(hl:fs.length<1000)(ry:RelV y u)
  (h:∀s',Inv X pins σ (upd H a (.ins C dx (kc f y fs))) s'->Q () s'):wpAny (model X.prog X.w) A (setAttr (.ref a) f u) Q E s:=by
 obtain⟨mA,O,r,wi,_,ho⟩:=oE I.hok e;have hz:(fs.map (·.1)).length<=sizeLine:=by rw[FY,Hm];omega
 refine Bs I.kIn O c.sa c.po n.taker c.hd wi hz fun h' O' sb=>h _ ?_;have hd:∃o,h'.get? dx=some o:=let ⟨o,_,_,e',_⟩:=O'.ns;⟨o,e'⟩;refine I.write (x:=a) (e:=dx) (by rw[e];exact True.intro) (.inr ho) (fun b q hb z=>(sb.2 b hb).trans z) hd ?_;refine⟨by rw[az O.ne];exact ho,?_,O.ne,O'.obj,_,O'.ns,fun g=>?_,fun g hg=>?_⟩
 ·have:=nT f y fs;omega
 ·show gY ((kc f y fs).lookup g) (if g=f then some u else mA g);rw[nS];by_cases q:g=f
  ·rw[F8 q,F8 q];exact ry
  ·rw[F6 q,F6 q];exact r g
 ·by_cases q:g=f
  ·rw[q];exact(m8 f y fs).1
  ·refine(m8 f y fs).2 g (wi g fun z=>hg ?_);show(if g=f then some u else mA g)=none;rw[F6 q];exact z
theorem Inv.made(I:Inv X pins σ H s):Inv X pins σ (upd (upd H s.heap.objs.size (.own (s.heap.objs.size+1))) (s.heap.objs.size+1) (.ins C s.heap.objs.size []))
  {s with heap:=(s.heap.push PySem.W.emptyDict).push (PySem.W.instObj C s.heap.objs.size)}:=by
 have e1:(s.heap.push PySem.W.emptyDict).get? s.heap.objs.size=some PySem.W.emptyDict:=Gm s.heap rfl;have e2:((s.heap.push PySem.W.emptyDict).push (PySem.W.instObj C s.heap.objs.size)).get? (s.heap.objs.size+1)=some (PySem.W.instObj C s.heap.objs.size):=by have:=Gm (s.heap.push PySem.W.emptyDict) (o:=PySem.W.instObj C s.heap.objs.size) rfl;rwa[Heap.size_push]at this
 have e3:(s.heap.push PySem.W.emptyDict).Ns s.heap.objs.size (fun _=>none):=⟨PySem.W.emptyDict,#[],_,e1,rfl,(fun e he=>absurd he (by simp)),fun _=>rfl⟩;have I1:=I.laid (a:=s.heap.objs.size) (o:=.own (s.heap.objs.size+1)) (h':=s.heap.push PySem.W.emptyDict) (t':=s.toks) (fun b u q=>F0 _ q) (F4 _) ⟨_,e1⟩;refine I1.laid (a:=s.heap.objs.size+1) (o:=.ins C s.heap.objs.size []) (t':=s.toks) (fun b u q=>F0 _ q) (Nat.le_of_eq (Heap.size_push _ _)) ?_;have ne:s.heap.objs.size≠s.heap.objs.size+1:=Gz (Nat.lt_succ_self _);refine⟨by rw[az ne,af],GO _,ne,e2,fun _=>none,(Heap.Ns1.of_empty e3).at fun o q=>F0 _ q,fun _=>True.intro,fun y hy=>absurd rfl hy⟩
theorem xZ{prog:Program}{w:World}{env:Env}{e:Expr}{f:Str}{pos:Pos}{s:Shared}{Q:Value->Shared->Prop}(hb:attributeBase e f env (eval e env)=eval e env)
  (h:wpAny (model prog w) A (eval e env) (fun o s₁=>wpAny (model prog w) A (getAttr o f true) Q E s₁) E s):wpAny (model prog w) A (eval (.Attribute e f pos) env) Q E s:=
 Attribute_any_ h (by rw[arm_eval_Attribute,hb])
end
def Eu(K:Frag)(ta:TE)(f:Str):TE:=fun σ H Q=>ta σ H fun x H1=>∃a C dx fs v,x=.ref a/\H1 a=some (.ins C dx fs)/\Cls K C/\bu K C f/\fs.lookup f=some v/\Q v H1
def FC(K:Frag)(ta tv:TE)(f:Str):TS:=fun D σ H=>tv σ H fun y H1=>ta σ H1 fun x H2=>∃a C dx fs,x=.ref a/\H2 a=some (.ins C dx fs)/\Cls K C/\bu K C f/\fs.length<1000/\
 D.nx σ (upd H2 a (.ins C dx (kc f y fs)))
section
variable{X:Cx}{o e value:Expr}{f:Str}{pos pos' tpos:Pos}{ta tv:TE}
theorem jE(he:PE X e ta)(hb:attributeBase e f X.env (eval e X.env)=eval e X.env):PE X (.Attribute e f pos) (Eu X.K ta f):=by intro pins s σ H Q I h;refine xZ hb (thn (he pins s σ H _ I h) fun u s1 hPz=>?_);obtain⟨x,H1,I1,rx,a,C,dx,fs,v,ex,ea,c,n,l,q⟩:=hPz;subst ex;obtain rfl:u=Value.ref a:=rx;exact wQ I1 ea c n l fun u' s2 I2 ru=>⟨v,H1,I2,ru,q⟩
theorem iQ(ha:PE X o ta)(hv:PE X value tv)(hs:swapsWith value (some (.Attribute o f pos')) pos.line X.env=pure false):PS X (.Assign [.Attribute o f pos'] value pos) (FC X.K ta tv f):=by intro pins s σ H D I h;refine plainObj_wpAny_Assign_Attribute (thn (hv pins s σ H _ I h) fun u s1 hPz=>L2.ep3 hPz fun y H1 I1 ry q=>thn (ha pins s1 σ H1 _ I1 q) fun ov s2 hPz=>?_) hs;obtain⟨x,H2,I2,rx,a,C,dx,fs,ex,ea,c,n,l,q2⟩:=hPz;subst ex;obtain rfl:ov=Value.ref a:=rx;exact wa I2 ea c n l ry fun s3 I3=>⟨σ,_,I3,q2⟩
end
section
variable{X:Cx}{pins:List (Addr×Obj)}{σ:St}{H:Hp}{s:Shared}{A:Around}{E:Value->Shared->Prop}{Q:Value->Shared->Prop}{c:Value}{b:Bool}
inductive gX(K:Frag)(H:Hp):V->Value->Prop where
 |non:gX K H .non (.type "NoneType")
 |bl (x:Bool):gX K H (.bl x) (.type "bool")
 |int (i:Int):gX K H (.int i) (.type "int")
 |str (x:Str):gX K H (.str x) (.type "str")
 |flt (x:UInt64):gX K H (.flt x) (.type "float")
 |lst {a:Addr} {xs:List V} (e:H a=some (.lst xs)):gX K H (.ref a) (.type "list")
 |frz {a:Addr} {o:Obj} {xs:List V} (e:H a=some (.frz o (.lst xs))):gX K H (.ref a) (.type "list")
 |tup {a:Addr} {xs:List V} (e:H a=some (.tup xs)):gX K H (.ref a) (.type "tuple")
 |dK {a:Addr} {kvs:List (Key×V)} (e:H a=some (.dK kvs)):gX K H (.ref a) (.type "dict")
 |dT {a:Addr} {kvs:List (List Key×V)} (e:H a=some (.dT kvs)):gX K H (.ref a) (.type "dict")
 |ins {a C dx:Addr} {fs:List (Str×V)} (e:H a=some (.ins C dx fs)) (cl:Cls K C) (ha:findIn K (.ref C) "__class__"=some (some (.builtin "object.__class__")))
  (hn:PySem.W.specialIn K (.builtin "object.__class__") "__get__"=some (some (.builtin "getset_descriptor.__get__"))) (htk:PySem.W.takesIn K (.builtin "object.__class__")=some true)
  (hm:mroIn K C (.type "object")=some true):gX K H (.ref a) (.ref C)
theorem yA{x:V}{u t:Value}(I:Inv X pins σ H s)(rx:RelV x u)(ty:gX X.K H x t)(e:kitOne X.K t c=some b)(h:∀tk,Q (.bool b) {s with toks:=tk}):
  wpAny (model X.prog X.w) A (call (.builtin "isinstance") [u,c]) Q E s:=by
 cases ty with
 |non=>cases (show u=Value.none from rx);exact Hf PySem.W.kitx_none I.kIn True.intro e (fun z=>nomatch z) h
 |bl y=>cases (show u=Value.bool y from rx);exact Hf PySem.W.kitx_bool I.kIn True.intro e (fun z=>nomatch z) h
 |int i=>obtain⟨t,q⟩:=(show ∃t,u=Value.int i t from rx);cases q;exact Hf PySem.W.kitx_int I.kIn True.intro e (fun z=>nomatch z) h
 |str y=>obtain⟨t,q⟩:=(show ∃t,u=Value.str y t from rx);cases q;exact Hf PySem.W.kitx_str I.kIn True.intro e (fun z=>nomatch z) h
 |flt y=>obtain⟨t,q⟩:=(show ∃t,u=Value.float y t from rx);cases q;exact Hf PySem.W.kitx_float I.kIn True.intro e (fun z=>nomatch z) h
 | @lst a xs ea=>cases (show u=Value.ref a from rx);obtain⟨_,_,n,_,h1⟩:=(show bN X.prog X.w H s.heap a (.lst xs)from I.hok a _ ea);exact Hf PySem.W.kitx_list I.kIn ⟨_,h1,rfl⟩ e (fun z=>nomatch z) h
 | @frz a ob xs ea=>cases (show u=Value.ref a from rx);obtain⟨_,_,_,n,_,h1⟩:=(show bN X.prog X.w H s.heap a (.frz ob (.lst xs))from I.hok a _ ea);exact Hf PySem.W.kitx_list I.kIn ⟨_,h1,rfl⟩ e (fun z=>nomatch z) h
 | @tup a xs ea=>cases (show u=Value.ref a from rx);obtain⟨_,_,_,p⟩:=(show bN X.prog X.w H s.heap a (.tup xs)from I.hok a _ ea);obtain⟨o,h1,h2,_⟩:=p;exact Hf PySem.W.kitx_tuple I.kIn ⟨o,h1,h2⟩ e (fun z=>nomatch z) h
 | @dK a kvs ea=>cases (show u=Value.ref a from rx);obtain⟨_,_,vs,_,p⟩:=(show bN X.prog X.w H s.heap a (.dK kvs)from I.hok a _ ea);obtain⟨o,es,ep,h1,h2,_⟩:=p;exact Hf PySem.W.kitx_dict I.kIn ⟨o,h1,h2.1⟩ e (fun z=>nomatch z) h
 | @dT a kvs ea=>cases (show u=Value.ref a from rx);obtain⟨_,_,xs,_,o,es,ep,h1,h2,_⟩:=(show bN X.prog X.w H s.heap a (.dT kvs)from I.hok a _ ea);exact Hf PySem.W.kitx_dict I.kIn ⟨o,h1,h2.1⟩ e (fun z=>nomatch z) h
 | @ins a C dx fs ea cl ha hn htk hm=>cases (show u=Value.ref a from rx);obtain⟨mA,O,_⟩:=oE I.hok ea;obtain⟨od,J,_⟩:=O.look;exact Hf (PySem.W.kitx_own (cl.get _) cl.hd ha hn htk hm) I.kIn J e (fun z=>nomatch z) h
end
structure cb(k:Nat)(A:Around):Prop where
 hd:A.handled=none
 dp:A.depth+3*k+5<recursionLimit
 un:A.units+16*k+200<cLine
theorem cb.mono{j k:Nat}{A:Around}(r:cb k A)(h:j<=k):cb j A:=⟨r.hd,by have:=r.dp;omega,by have:=r.un;omega⟩
theorem cb.deeper{k:Nat}{A:Around}(r:cb (k+1) A)(env:Env):cb k (A.deeper env):=
 ⟨r.hd,by have:=r.dp;show A.depth+1+3*k+5<_;omega,by have:=r.un;show A.units+3+16*k+200<_;omega⟩
theorem qe{A:Around}{C:Addr}{us:List Value}{kw:List (Str×Value)}:(A.under (.builtin "type.__call__" ⟨.ref C::us,kw⟩)).depth=A.depth+1:=by first|rfl|simp[Around.under,Code.weight,Code.isCreation,Code.isGuard,Code.isCaller,Code.frames,Code.isFrame,guardIds]
theorem qd{A:Around}{C:Addr}{us:List Value}{kw:List (Str×Value)}:(A.under (.builtin "type.__call__" ⟨.ref C::us,kw⟩)).units=A.units+1:=by first|rfl|simp[Around.under,Code.cUnits,Code.frames,Code.isFrame]
theorem cb.make{k:Nat}{A:Around}(r:cb (k+1) A)(C:Addr)(us:List Value)(kw:List (Str×Value)):cb k (A.under (.builtin "type.__call__" ⟨.ref C::us,kw⟩)):=
 ⟨r.hd,by have:=r.dp;rw[qe];omega,by have:=r.un;rw[qd];omega⟩
theorem cb.depth{k:Nat}{A:Around}(r:cb k A):A.depth<recursionLimit:=by have:=r.dp;omega
theorem cb.units{k:Nat}{A:Around}(r:cb k A):A.units+64<cLine:=by have:=r.un;omega
def Ft:TA:=fun _ H Q=>Q [] H
def Ey(ta:TE)(tr:TA):TA:=fun σ H Q=>ta σ H fun x H1=>tr σ H1 fun xs H2=>Q (x::xs) H2
section
variable{X:Cx}{e:Expr}{es:List Expr}{te:TE}{t:TA}{pos:Pos}
theorem ah:PA X [] Ft:=fun _ _ _ _ H Q I h=>Calls.spliced_nil ⟨[],H,I,.nil,h⟩
theorem aa(ha:PE X e te)(hr:PA X es t)(hs:starEach (e::es) X.env=(false,eval e X.env)::starEach es X.env:=by rfl):PA X (e::es) (Ey te t):=by intro pos pins s σ H Q I h;rw[hs];show wpAny _ _ (spliced ((false,eval e X.env)::backTo pos (starEach es X.env))) _ _ s;refine Calls.spliced_cons (thn (ha pins s σ H _ I h) fun u s1 hPz=>?_);obtain⟨x,H1,I1,r1,q1⟩:=hPz;exact thn (hr pos pins s1 σ H1 _ I1 q1) fun us s2 hPz=>L2.ep3 hPz fun xs H2 I2 r2 q2=>⟨x::xs,H2,I2,.cons r1 r2,q2⟩
def Fl(t:TA):TE:=fun σ H Q=>t σ H fun xs H1=>xs.length<=sizeLine/\∀p,H1 p=none->Q (.ref p) (upd H1 p (.tup xs))
def Fv(t:TA):TE:=fun σ H Q=>t σ H fun xs H1=>xs.length<=sizeLine/\∀p,H1 p=none->Q (.ref p) (upd H1 p (.lst xs))
theorem bp{x1}(h:PA X es t):PE X (.Tuple es x1 pos) (Fl t):=by intro pins s σ H Q I hq;refine wpAny_Tuple_spliced (thn (h pos pins s σ H _ I hq) fun us s1 ⟨xs,H1,I1,r,z,q⟩=>⟨by rw[<-r.length];exact z,?_⟩);have hf:H1 s1.heap.objs.size=none:=I1.hok.fresh (F4 _);refine⟨.ref s1.heap.objs.size,upd H1 s1.heap.objs.size (.tup xs),I1.laid (t':=s1.toks) (fun b u e=>F0 _ e) (F4 _) ?_,rfl,q _ hf⟩;exact⟨z,us,r,⟨_,Gm _ rfl,rfl,_,rfl⟩⟩
theorem cM(h:PA X es t):PE X (.List es pos) (Fv t):=by intro pins s σ H Q I hq;refine wpAny_List_spliced (thn (h pos pins s σ H _ I hq) fun us s1 ⟨xs,H1,I1,r,z,q⟩=>⟨by rw[<-r.length];exact z,?_⟩);have hf:H1 s1.heap.objs.size=none:=I1.hok.fresh (F4 _);refine⟨.ref s1.heap.objs.size,upd H1 s1.heap.objs.size (.lst xs),I1.laid (t':=s1.toks) (fun b u e=>F0 _ e) (F4 _) ?_,rfl,q _ hf⟩;exact⟨z,us,0,r,Gm _ rfl⟩
end
noncomputable abbrev Sp:=List V->Hp->VK->XK->Prop
noncomputable abbrev CXT:=List Env->Hp->Shared->XK->Value->Shared->Prop
structure vU(P:Program)(w:World)(K:Frag)(mg:Str->Option Value)(base:Heap)(A:Around)(outer:List Env)(s:Shared)(H:Hp):Prop where
 frames:A.frames=some outer
 mod:Mod K mg base
 bs:∀b o,base.get? b=some o->s.heap.get? b=some o/\H b=none
 bsz:base.objs.size<=s.heap.objs.size
 funs:s.heap.FunFrames base outer
 frf:∀b∈frs outer,H b=none
 hok:HOk P w H s.heap
 bare:AllBare s.gens
def CE(outer:List Env)(P:Program)(w:World)(H:Hp)(s:Shared)(Q:VK)(u:Value)(s':Shared):Prop:=
 ∃v H',s'.os=s.os/\AllBare s'.gens/\Un (frs outer) [] H H' s.heap s'.heap/\HOk P w H' s'.heap/\RelV v u/\Q v H'
def CR(CX:CXT)(outer:List Env)(P:Program)(w:World)(H:Hp)(s:Shared)(Q:VK)(E:XK)(r:Result)(s':Shared):Prop:=
 match r with
 | .ok (.ret u)=>CE outer P w H s Q u s'
 | .ok _=>False
 | .error e=>CX outer H s E e s'
structure ji(P:Program)(w:World)(K:Frag)(mg:Str->Option Value)(base:Heap)(CX:CXT)(k:Nat)(f:Addr)(fd:FuncData)(ps:List Str)(sp:Sp):Prop where
 len:∀vs H Q E,sp vs H Q E->vs.length=ps.length
 run:∀(A:Around)(outer:List Env)(s:Shared)(H:Hp)(args:Args)(us:List Value)(vs:List V)(Q:VK)(E:XK),cb k A->vU P w K mg base A outer s H->BindsTo s fd args (ps.zip us)->Vals vs us->sp vs H Q E->
  codeAny (model P w) A (.call (.ref f) args) (CR CX outer P w H s Q E) s
theorem vU.make{P:Program}{w:World}{K:Frag}{mg:Str->Option Value}{base:Heap}{A:Around}{outer:List Env}{s:Shared}{H:Hp}(e:vU P w K mg base A outer s H)(C:Addr)(us:List Value)(kw:List (Str×Value)):
 vU P w K mg base (A.under (.builtin "type.__call__" ⟨.ref C::us,kw⟩)) outer s H:=⟨by first|exact e.frames|(simpa[Around.under,Code.envs,Code.isFrame,pushEnvs]using e.frames),e.mod,e.bs,e.bsz,e.funs,e.frf,e.hok,e.bare⟩
section
variable{X:Cx}{pins:List (Addr×Obj)}{σ:St}{H:Hp}{s s':Shared}
theorem Inv.env0(I:Inv X pins σ H s):vU X.prog X.w X.K X.mg X.base X.A X.stack s H:=
 ⟨I.ok.frames,I.ok.mod,I.bs,GA I.ok.bsz I.sz,I.stack,I.stkFree,I.hok,I.bare⟩
theorem Inv.after{Q:VK}{u:Value}(I:Inv X pins σ H s)(h:CE X.stack X.prog X.w H s Q u s'):EP X pins σ Q u s':=by obtain⟨v,H',os,bare,un,hok,r,q⟩:=h;obtain⟨hh,g,d,t,os'⟩:=s';obtain rfl:os'=s.os:=os;exact⟨v,H',I.call (h':=hh) (g':=g) (d':=d) (t':=t) (ch:=[]) un hok bare (fun b z=>absurd z (by simp)),r,q⟩
end
def kg(sp:Sp)(dvs:List V)(E:XK)(t:TA):TE:=fun σ H Q=>t σ H fun vs H1=>sp (vs++dvs) H1 Q E
def zo(C:Addr)(sp:Sp)(dvs:List V)(E:XK)(t:TA):TE:=fun σ H Q=>t σ H fun vs H1=>∀x dx,H1 x=none->H1 dx=none->dx≠x->
 sp (.ref x::(vs++dvs)) (upd (upd H1 dx (.own x)) x (.ins C dx [])) (fun v H2=>v=.non/\Q (.ref x) H2) E
def Binds(K:Frag)(fd:FuncData)(ps:List Str)(ds:List Value):Prop:=
 ∀(s:Shared)(us:List Value),K.In s.heap->(us++ds).length=ps.length->BindsTo s fd ⟨us,[]⟩ (ps.zip (us++ds))
theorem Binds.all{K:Frag}{fd:FuncData}{ps:List Str}(h:∀us:List Value,us.length=ps.length->bindArgs fd ⟨us,[]⟩=pure (ps.zip us)):Binds K fd ps []:=fun s us _ hl=>by rw[GF]at hl ⊢;exact .of_eq (h us hl)
def Passes(CX:CXT)(X:Cx)(E:XK):Prop:=∀(pins:List (Addr×Obj))(σ:St)(H:Hp)(s:Shared)(e:Value)(s':Shared),Inv X pins σ H s->CX X.stack H s E e s'->X.xe e s'
section
variable{X:Cx}{CX:CXT}{k:Nat}{f C:Addr}{fd:FuncData}{ps:List Str}{sp:Sp}{dvs:List V}{ds:List Value}{E:XK}{x m:Str}{p pos apos:Pos}{e o:Expr}{es:List Expr}{ta:TE}{t:TA}
theorem wd{pins:List (Addr×Obj)}{σ:St}{H:Hp}{s:Shared}{Q:VK}{us:List Value}{vs:List V}(F:ji X.prog X.w X.K X.mg X.base CX k f fd ps sp)(hr:cb k X.A)(hb:Binds X.K fd ps ds)(hd:Vals dvs ds)(hx:Passes CX X E)
  (I:Inv X pins σ H s) (r:Vals vs us) (h:sp (vs++dvs) H Q E):wpAny (model X.prog X.w) X.A (call (.ref f) us) (EP X pins σ Q) X.xe s:=by
 have r2:Vals (vs++dvs) (us++ds):=r.append hd;have hl:(us++ds).length=ps.length:=by rw[<-r2.length];exact F.len _ _ _ _ h
 refine wpAny_call (codeAny_mono (F.run X.A X.stack s H ⟨us,[]⟩ (us++ds) (vs++dvs) Q E hr I.env0 (hb s us I.kIn hl) r2 h) fun r s' hq=>?_);cases r with
 |error e=>exact hx pins σ H s e s' I hq
 |ok fl=>
  cases fl with
  |ret u=>exact I.after hq
  |next=>exact False.elim hq
  |brk=>exact False.elim hq
  |cont=>exact False.elim hq
theorem tJ(F:ji X.prog X.w X.K X.mg X.base CX k f fd ps sp)(hr:cb k X.A)(hg:Gl X x)(hm:X.mg x=some (.ref f))(hk:keepIn X.K (.ref f)=true)(hb:Binds X.K fd ps ds)(hd:Vals dvs ds)(hx:Passes CX X E)
  (ha:PA X (e::es) t) (hdb:(x==("__debug__":Str))=false:=by decide) (he:starEach (e::es) X.env=(false,eval e X.env)::starEach es X.env:=by rfl) (hpl:(backTo pos (starEach es X.env)).any (·.1)=false:=by rfl):
  PE X (.Call (.Name x p) (e::es) [] pos) (kg sp dvs E t):=by
 intro pins s σ H Q I h;refine wpAny_Call_Name_kw (gx I hg hm ?_ hdb);refine PySem.W.callWith_K (h₀:=X.base) I.ok.mod.kin hk (thn (ha pos pins s σ H _ I h) fun us s1 hPz=>L2.ep3 hPz fun vs H1 I1 r q=>⟨I1.kIn,?_⟩) he hpl;exact wd F hr hb hd hx I1 r q
structure Mk(K:Frag)(C f:Addr):Prop where
 makes:PySem.W.makesIn K C=true
 init:findIn K (.ref C) "__init__"=some (some (.ref f))
 fn:PySem.W.isFn K (.ref f)=true
 kp:keepIn K (.ref C)=true
theorem zB{pins:List (Addr×Obj)}{σ:St}{H:Hp}{s:Shared}{Q:VK}{us:List Value}{vs:List V}(M:Mk X.K C f)(F:ji X.prog X.w X.K X.mg X.base CX k f fd ps sp)(hr:cb (k+1) X.A)(hb:Binds X.K fd ps ds)(hd:Vals dvs ds)
  (hx:Passes CX X E) (I:Inv X pins σ H s) (r:Vals vs us)
  (h:∀x dx,H x=none->H dx=none->dx≠x->sp (.ref x::(vs++dvs)) (upd (upd H dx (.own x)) x (.ins C dx [])) (fun v H2=>v=.non/\Q (.ref x) H2) E):
  wpAny (model X.prog X.w) X.A (call (.ref C) us) (EP X pins σ Q) X.xe s:=by
 have hq:=h (s.heap.objs.size+1) s.heap.objs.size (I.hok.fresh (Nat.le_succ _)) (I.hok.fresh (F4 _)) (Gz (Nat.lt_succ_self _));have I2:=Inv.made (C:=C) I;have r2:Vals (V.ref (s.heap.objs.size+1)::(vs++dvs)) (Value.ref (s.heap.objs.size+1)::(us++ds)):=.cons rfl (r.append hd);have hl:(Value.ref (s.heap.objs.size+1)::us++ds).length=ps.length:=by have e:=r2.length;rw[F.len _ _ _ _ hq]at e;exact e.symm
 refine wpAny_call (Ak (f:=f) I.kIn M.makes M.init (HC.mp M.fn) (codeAny_mono (F.run _ X.stack _ _ ⟨Value.ref (s.heap.objs.size+1)::us,[]⟩ (Value.ref (s.heap.objs.size+1)::(us++ds)) _ _ E (hr.make C us []) (I2.env0.make C us []) (hb _ (Value.ref (s.heap.objs.size+1)::us) I2.kIn hl) r2 hq) fun r s' hq'=>?_));cases r with
 |error e=>exact hx pins σ _ _ e s' I2 hq'
 |ok fl=>
  cases fl with
  |ret u=>obtain⟨v,H',I3,rv,ev,q3⟩:=I2.after hq';subst ev;exact⟨rv,⟨V.ref (s.heap.objs.size+1),H',I3,rfl,q3⟩⟩
  |next=>exact False.elim hq'
  |brk=>exact False.elim hq'
  |cont=>exact False.elim hq'
theorem xx(M:Mk X.K C f)(F:ji X.prog X.w X.K X.mg X.base CX k f fd ps sp)(hr:cb (k+1) X.A)(hg:Gl X x)(hm:X.mg x=some (.ref C))(hb:Binds X.K fd ps ds)(hd:Vals dvs ds)(hx:Passes CX X E)
  (ha:PA X (e::es) t) (hdb:(x==("__debug__":Str))=false:=by decide) (he:starEach (e::es) X.env=(false,eval e X.env)::starEach es X.env:=by rfl) (hpl:(backTo pos (starEach es X.env)).any (·.1)=false:=by rfl):
  PE X (.Call (.Name x p) (e::es) [] pos) (zo C sp dvs E t):=by
 intro pins s σ H Q I h;refine wpAny_Call_Name_kw (gx I hg hm ?_ hdb);refine PySem.W.callWith_K (h₀:=X.base) I.ok.mod.kin M.kp (thn (ha pos pins s σ H _ I h) fun us s1 hPz=>L2.ep3 hPz fun vs H1 I1 r q=>⟨I1.kIn,?_⟩) he hpl;exact zB M F hr hb hd hx I1 r q
end
structure aD(N P:List Str)(sc:Scope):Prop where
 kind:sc.kind=.function
 co:sc.isCoroutine=false
 gen:sc.isGenerator=false
 nd:N.Nodup
 pre:N.take P.length=P
 par:∀x∈P,sc.names.lookup x=some .local\/sc.names.lookup x=some .cell
 nofree:∀y∈sc.names,y.2≠ .free
theorem sy{kindOf:Str->Option NameKind}{x:Str}:∀{binds:List (Str×Value)}{m:Str->Option Value},(∀v,(x,v)∉binds)->bindL kindOf binds m x=m x
 | [],_,_=>rfl
 |(n,v)::r,m,h=>by
  unfold bindL;rw[sy fun w hw=>h w (F1 _ hw)];split
  ·have:x≠n:=(by rintro rfl;exact h v F7);simp[this]
  ·rfl
theorem sE{kindOf:Str->Option NameKind}{x:Str}:∀{binds:List (Str×Value)}{m:Str->Option Value},(∀v,(x,v)∉binds)->bindC kindOf binds m x=m x
 | [],_,_=>rfl
 |(n,v)::r,m,h=>by
  unfold bindC;rw[sE fun w hw=>h w (F1 _ hw)];split
  ·rfl
  ·have:x≠n:=(by rintro rfl;exact h v F7);simp[this]
theorem sC{kindOf:Str->Option NameKind}{x:Str}{v:Value}:∀{P:List Str}{vs:List Value}{i:Nat}{m:Str->Option Value},P.Nodup->P[i]?=some x->vs[i]?=some v->kindOf x=some .local->
  bindL kindOf (P.zip vs) m x=some v
 | [],_,_,_,_,h,_,_=>by simp at h
 |_::_,[],_,_,_,_,h,_=>by simp at h
 |p::P,w::vs,0,m,nd,h1,h2,hk=>by simp at h1 h2;subst h1;subst h2;show bindL kindOf ((p,w)::P.zip vs) m p=_;unfold bindL;rw[sy fun v hv=>(Hh.mp nd).1 (List.of_mem_zip hv).1,F8 hk];simp
 |p::P,w::vs,i+1,m,nd,h1,h2,hk=>by show bindL kindOf ((p,w)::P.zip vs) m x=_;unfold bindL;exact sC (i:=i) (Hh.mp nd).2 (by simpa using h1) (by simpa using h2) hk
theorem sF{kindOf:Str->Option NameKind}{x:Str}{v:Value}:∀{P:List Str}{vs:List Value}{i:Nat}{m:Str->Option Value},P.Nodup->P[i]?=some x->vs[i]?=some v->kindOf x≠some .local->
  bindC kindOf (P.zip vs) m x=some v
 | [],_,_,_,_,h,_,_=>by simp at h
 |_::_,[],_,_,_,_,h,_=>by simp at h
 |p::P,w::vs,0,m,nd,h1,h2,hk=>by simp at h1 h2;subst h1;subst h2;show bindC kindOf ((p,w)::P.zip vs) m p=_;unfold bindC;rw[sE fun v hv=>(Hh.mp nd).1 (List.of_mem_zip hv).1,F6 hk];simp
 |p::P,w::vs,i+1,m,nd,h1,h2,hk=>by show bindC kindOf ((p,w)::P.zip vs) m x=_;unfold bindC;exact sF (i:=i) (Hh.mp nd).2 (by simpa using h1) (by simpa using h2) hk
noncomputable def start(N:List Str)(vs:List V):St:=vs.map some++List.replicate (N.length-vs.length) none
noncomputable def cT(CX:CXT)(P:Program)(w:World)(K:Frag)(mg:Str->Option Value)(base:Heap)(N:List Str)(qual:Str)(scope:Scope)(f:Addr)(cd:Value)(A:Around)(outer:List Env)(s:Shared)(H:Hp)(E:XK):Cx where
 prog:=P
 w:=w
 K:=K
 mg:=mg
 base:=base
 A:=A.deeper (envOfC qual scope s.heap.objs.size f cd)
 N:=N
 s₀:=s
 H₀:=H
 env:=envOfC qual scope s.heap.objs.size f cd
 outer:=outer
 stack:=envOfC qual scope s.heap.objs.size f cd::outer
 ex:=[]
 calm:=true
 fn:=fun _=>true
 pn:=[]
 xe:=fun e s'=>wpAny (model P w) (A.deeper (envOfC qual scope s.heap.objs.size f cd)) (leaving (envOfC qual scope s.heap.objs.size f cd) e) (fun _ s''=>CX outer H s E e s'') (fun e' s''=>CX outer H s E e' s'') s'
theorem vJ{sc:Scope}{n:Nat}{x:Str}(h:sc.names.lookup x=some .cell):∃c,(cellsFrom n sc.names []).lookup x=some c:=by have q:=PySem.W.cellsFrom_some sc.names n [] (.inl h);exact Option.isSome_iff_exists.mp q
theorem sj{CX:CXT}{P:Program}{w:World}{K:Frag}{mg:Str->Option Value}{base:Heap}{N ps:List Str}{qual:Str}{scope:Scope}{f:Addr}{cd:Value}{A:Around}{outer:List Env}{s s1:Shared}{H:Hp}{E:XK}{us:List Value}{vs:List V}
  (S:aD N ps scope) (hd:A.handled=none) (e0:vU P w K mg base A outer s H) (hl:vs.length=ps.length) (r:Vals vs us)
  (x:InCallC s s.heap.objs.size (bindL (envOfC qual scope s.heap.objs.size f cd).kindOf (ps.zip us) fun _=>none) (cellsFrom (s.heap.objs.size+1) scope.names []) (bindC (envOfC qual scope s.heap.objs.size f cd).kindOf (ps.zip us) fun _=>none) s1):
  Inv (cT CX P w K mg base N qual scope f cd A outer s H E) [] (start N vs) H s1:=by
 have hpl:ps.length<=N.length:=by have:=congrArg List.length S.pre;rw[G0]at this;omega
 obtain⟨h1,tk,rfl,hk⟩:=x.done;have noA:∀b:Addr,b∉(cT CX P w K mg base N qual scope f cd A outer s H E).ex:=fun b z=>absurd (show b∈([]:List Addr)from z) (by simp)
 refine⟨⟨e0.mod,S.kind,rfl,rfl,F4 _,fun y z c h1 h2=>?_,fun y hy=>?_,fun y c _ h=>?_,fun _=>hd,Around.frames_deeper e0.frames,.inr ⟨rfl,rfl⟩,fun b z=>absurd z (noA b),e0.bs,e0.bsz,fun b _ _=>noA b,fun b z=>absurd z (noA b),e0.funs,e0.frf⟩,
  rfl,e0.bare,Un.kept hk,⟨_,x.toInCall.ns,fun i y v h1 h2 h3=>?_⟩,fun y c h=>⟨_,x.cell y c h⟩,e0.hok.fresh (F4 _),fun y c h=>?_,fun p hp=>absurd (show p∈([]:List (Addr×Obj))from hp) (by simp),e0.hok.kept hk,?_⟩
 ·exact name_of_addr x.apart (Hx h1) (Hx h2)
 ·have hy:scope.names.lookup y=some .cell\/scope.names.lookup y=some .free:=hy;rcases hy with hy|hy
  ·exact vJ hy
  ·exact absurd rfl (S.nofree _ (Hx hy))
 ·exact Nat.le_of_lt (x.above y c (Hx h))
 ·have hi:i<vs.length:=by
   unfold start at h2;by_cases hi:i<vs.length
   ·exact hi
   ·rw[List.getElem?_append_right (by simpa using hi)]at h2;rw[List.getElem?_replicate]at h2;split at h2<;>cases h2
  have ha:vs[i]?=some v:=by
   unfold start at h2;rw[List.getElem?_append_left (by simpa using hi),Gn]at h2;cases e:vs[i]? with
   |none=>rw[e]at h2;cases h2
   |some a=>rw[e]at h2;cases h2;rfl
  obtain⟨u,hu,rv⟩:=r.get ha;have hp:ps[i]?=some y:=by rw[<-S.pre,List.getElem?_take_of_lt (by omega)];exact h1
  have ndP:ps.Nodup:=by rw[<-S.pre];exact S.nd.sublist (List.take_sublist _ _)
  refine⟨u,rv,?_⟩;rcases S.par y (Gb hp)with k|k
  ·exact .inl ⟨k,sC ndP hp hu k⟩
  ·obtain⟨c,e⟩:=vJ (n:=s.heap.objs.size+1) k;refine .inr ⟨.inl k,c,e,?_⟩;have q:=x.cell y c e;rw[sF ndP hp hu (by show scope.names.lookup y≠_;rw[k];decide)]at q;exact q
 ·exact e0.hok.fresh (Nat.le_of_lt (x.above y c (Hx h)))
 ·unfold start;show _=N.length;rw[Gd,FY,List.length_replicate];omega
theorem vq{CX:CXT}{P:Program}{w:World}{K:Frag}{mg:Str->Option Value}{base:Heap}{k:Nat}{f:Addr}{name qual:Str}{params:Arguments}{body:List Stmt}{scope:Scope}{dV kV doc pm cdv ct oc:Value}{an od:Option Addr}
  {osl:Array (Option Value)} {N ps:List Str} {sp:Sp} (lk:K.lookup f=some ⟨oc,od,.func (fnOf name qual params body scope dV kV doc pm an cdv ct),osl⟩) (hcd:codeIn K cdv qual=true) (S:aD N ps scope)
  (len:∀vs H Q E,sp vs H Q E->vs.length=ps.length)
  (hbody:∀(A:Around)(outer:List Env)(s:Shared)(H:Hp)(vs:List V)(Q:VK)(E:XK),cb k (A.deeper (envOfC qual scope s.heap.objs.size f cdv))->sp vs H Q E->
   ∃t,PSs (cT CX P w K mg base N qual scope f cdv A outer s H E) body t/\t {nx:=fun _ H'=>Q .non H',rt:=Q} (start N vs) H):
  ji P w K mg base CX (k+1) f (fnOf name qual params body scope dV kV doc pm an cdv ct) ps sp:=by
 refine⟨len,fun A outer s H args us vs Q E hr e0 hb r hsp=>?_⟩;have hl:=len _ _ _ _ hsp;have KX:K.In s.heap:=e0.mod.kin.keeps fun b o e=>(e0.bs b o e).1;have lim:s.heap.NoLimit:=e0.mod.nolimit.keeps fun b o e=>(e0.bs b o e).1;have hkind:∀y∈ps.zip us,scope.names.lookup y.1=some .local\/(scope.names.lookup y.1=some .cell/\((cellsFrom (s.heap.objs.size+1) scope.names []).lookup y.1).isSome=true):=fun⟨n,v⟩ hy=>by
  rcases S.par n (List.of_mem_zip hy).1 with q|q
  ·exact .inl q
  ·exact .inr ⟨q,PySem.W.cellsFrom_some _ _ _ (.inl q)⟩
 refine codeAny_call_function hr.depth (KX _ _ lk) rfl S.co S.gen rfl (PySem.W.codeRec_of KX hcd) (hb _ _ _ _ ?_);refine wpAny_newFunctionEnv_cells S.kind hkind fun env he s1 x=>?_;subst he;refine⟨lim.keeps x.toInCall.keep,codeAny_func ?_⟩;obtain⟨t,ht,hq⟩:=hbody A outer s H vs Q E (hr.deeper _) hsp;have I:Inv (cT CX P w K mg base N qual scope f cdv A outer s H E) [] (start N vs) H s1:=sj S hr.hd e0 hl r x;refine Gy (ht [] s1 (start N vs) H _ I hq) (fun fl s' hs=>?_) fun e s' hs=>hs;have fin:∀{σ':St}{H':Hp}{v:V}{u:Value},Inv (cT CX P w K mg base N qual scope f cdv A outer s H E) [] σ' H' s'->RelV v u->Q v H'->CE outer P w H s Q u s':=
  fun {σ' H' v u} J rv q=>⟨v,H',J.os,J.bare,J.base,J.hok,rv,q⟩
 cases fl with
 |ret u=>obtain⟨v,σ',H',J,rv,q⟩:=hs;exact fin J rv q
 |next=>obtain⟨σ',H',J,q⟩:=hs;exact fin (v:=V.non) (u:=Value.none) J rfl q
 |brk=>obtain⟨_,_,_,q⟩:=hs;exact False.elim q
 |cont=>obtain⟨_,_,_,q⟩:=hs;exact False.elim q
section
variable{X:Cx}{x:Str}{p pos:Pos}{e:Expr}{es:List Expr}{t:TA}{id T:String}{r:List V->Hp->VK->Prop}
def tCB(r:List V->Hp->VK->Prop)(t:TA):TE:=fun σ H Q=>t σ H fun vs H1=>r vs H1 Q
theorem aT(hc:dU X (.builtin id) r)(hg:Gl X x)(hm:X.mg x=none)(hv:bootBuiltins x=some (.builtin id))(ha:PA X (e::es) t)(hn:x≠"__name__":=by decide)(hdb:(x==("__debug__":Str))=false:=by decide)
  (he:starEach (e::es) X.env=(false,eval e X.env)::starEach es X.env:=by rfl) (hpl:(backTo pos (starEach es X.env)).any (·.1)=false:=by rfl):PE X (.Call (.Name x p) (e::es) [] pos) (tCB r t):=by
 intro pins s σ H Q I h;refine wpAny_Call_Name_kw (tW I hg hm hv ?_ hn hdb);exact PyProof.Rows.callWith_builtin1 (thn (ha pos pins s σ H _ I h) fun us s1 hPz=>L2.ep3 hPz fun vs H1 I1 r1 q1=>hc pins s1 σ H1 vs us Q I1 r1 q1) he hpl
theorem bL(hc:dU X (.type T) r)(hg:Gl X x)(hm:X.mg x=none)(hv:bootBuiltins x=some (.type T))(ha:PA X (e::es) t)(hn:x≠"__name__":=by decide)(hdb:(x==("__debug__":Str))=false:=by decide)
  (he:starEach (e::es) X.env=(false,eval e X.env)::starEach es X.env:=by rfl) (hpl:(backTo pos (starEach es X.env)).any (·.1)=false:=by rfl):PE X (.Call (.Name x p) (e::es) [] pos) (tCB r t):=by
 intro pins s σ H Q I h;refine wpAny_Call_Name_kw (tW I hg hm hv ?_ hn hdb);exact PyProof.Rows.callWith_type1 (thn (ha pos pins s σ H _ I h) fun us s1 hPz=>L2.ep3 hPz fun vs H1 I1 r1 q1=>hc pins s1 σ H1 vs us Q I1 r1 q1) he hpl
end
end L2
namespace HT
open PySem PyProof.Rows
section
variable{prog:Program}{w:World}{A:Around}{E:Value->Shared->Prop}{s:Shared}
noncomputable def sIx(n d:Nat):Option Int->Nat
 |none=>d
 |some v=>if v<0 then(v+(n:Int)).toNat else min v.toNat n
theorem zA(n d:Nat):sIx n d none=d:=rfl
theorem Bu(n d k:Nat):sIx n d (some (k:Int))=min k n:=by show(if(k:Int)<0 then((k:Int)+(n:Int)).toNat else min (k:Int).toNat n)=min k n;rw[F6 (by omega),Hb]
end
end HT
namespace L2
open PySem PySem.Spec PyProof.Rows
noncomputable abbrev TO:=St->Hp->(Option Int->Hp->Prop)->Prop
def PO(X:Cx)(e:Option Expr)(t:TO):Prop:=
 ∀(pins:List (Addr×Obj))(s:Shared)(σ:St)(H:Hp)(Q:Option Int->Hp->Prop),Inv X pins σ H s->t σ H Q->
  wpAny (model X.prog X.w) X.A (evalPart e X.env) (fun u s'=>∃o H',Inv X pins σ H' s'/\IsPart u o/\Q o H') X.xe s
noncomputable def Bi:TO:=fun _ H Q=>Q none H
noncomputable def Ep(t:TE):TO:=fun σ H Q=>t σ H fun x H1=>∃i,x=.int i/\Q (some i) H1
theorem intsAre_of{ns:List Int}:∀{us:List Value},Vals (ns.map V.int) us->IntsAre us ns:=by
 induction ns with
 |nil=>intro us r;rw[HH]at r;cases r;exact .nil
 |cons n ns ih=>
  intro us r;rw[F9]at r;cases r with
  |cons r1 r2=>obtain⟨t,e⟩:=r1;subst e;exact .cons n t (ih r2)
section
variable{X:Cx}{e:Expr}{te:TE}{lo hi:Option Expr}{tl th:TO}{pos p2:Pos}
theorem tF:PO X none Bi:=by intro pins s σ H Q I h;rw[evalPart_none];exact F3 ⟨none,H,I,.none,h⟩
theorem tE(h:PE X e te):PO X (some e) (Ep te):=by intro pins s σ H Q I hw;rw[evalPart_some];refine thn (h pins s σ H _ I hw) fun u s1 hPz=>?_;obtain⟨x,H1,I1,r1,q1⟩:=hPz;obtain⟨i,rfl,q⟩:=q1;obtain⟨t,rfl⟩:=r1;exact⟨some i,H1,I1,.int i t,q⟩
def SlR(X:Cx)(r:V->Option Int->Option Int->Hp->VK->Prop):Prop:=
 ∀(pins:List (Addr×Obj))(s:Shared)(σ:St)(H:Hp)(x:V)(v vl vu:Value)(lo hi:Option Int)(sl:Addr)(Q:VK),Inv X pins σ H s->RelV x v->s.heap.IsSliceOf sl vl vu .none->IsPart vl lo->IsPart vu hi->r x lo hi H Q->
  ∃T id,typeLookup (.type T) "__getitem__"=pure (some (.builtin id))/\s.TypeIs v T/\wpAny (model X.prog X.w) X.A (getItem v (.ref sl)) (EP X pins σ Q) X.xe s
def tSl(r:V->Option Int->Option Int->Hp->VK->Prop)(te:TE)(tl th:TO):TE:=fun σ H Q=>te σ H fun x H1=>tl σ H1 fun l H2=>th σ H2 fun u H3=>r x l u H3 Q
theorem pN{r:V->Option Int->Option Int->Hp->VK->Prop}(hr:SlR X r)(he:PE X e te)(hl:PO X lo tl)(hu:PO X hi th):PE X (.Subscript e (.Slice lo hi none p2) pos) (tSl r te tl th):=by intro pins s σ H Q I h;refine Subscript_ (thn (he pins s σ H _ I h) fun v s1 hPz=>?_);obtain⟨x,H1,I1,r1,q1⟩:=hPz;refine wpAny_Slice (thn (hl pins s1 σ H1 _ I1 q1) fun vl s2 hPz=>L2.ep3 hPz fun l H2 I2 pl q2=>thn (hu pins s2 σ H2 _ I2 q2) fun vu s3 hPz=>?_);obtain⟨u,H3,I3,pu,q3⟩:=hPz;rw[evalPart_none];refine F3 ?_;have I4:Inv X pins σ H3 {s3 with heap:=s3.heap.push {cls:=.type "slice",data:=.fields #[vl,vu,.none]}}:=I3.kept (t':=s3.toks) fun b ob q=>F0 _ q;obtain⟨T,id,hT,ht,hg⟩:=hr pins {s3 with heap:=s3.heap.push {cls:=.type "slice",data:=.fields #[vl,vu,.none]}} σ H3 x v vl vu l u s3.heap.objs.size Q I4 r1 (Heap.IsSliceOf.new ..) pl pu q3;show wpAny (model X.prog X.w) X.A (subscriptTail e (.Slice lo hi none p2) v (.ref s3.heap.objs.size)) (EP X pins σ Q) X.xe {s3 with heap:=s3.heap.push {cls:=.type "slice",data:=.fields #[vl,vu,.none]}};exact tail_any (ops:=[.ref s3.heap.objs.size,v]) ht hT hg (by with_unfolding_all rfl)
noncomputable def wV(xs:List V)(lo hi:Option Int):List V:=(xs.drop (HT.sIx xs.length 0 lo)).take (HT.sIx xs.length xs.length hi-HT.sIx xs.length 0 lo)
theorem vH(xs:List V)(lo hi:Option Int):(wV xs lo hi).length<=xs.length:=by unfold wV;rw[G0,List.length_drop];omega
end
noncomputable def ixN(n:Nat)(i:Int):Option Nat:=if 0<=i then(if i<n then some i.toNat else none)else if-(n:Int)<=i then some (i+n).toNat else none
noncomputable def atI{α:Type}(xs:List α)(i:Int):Option α:=(ixN xs.length i).bind fun j=>xs[j]?
theorem xM{n:Nat}{i:Int}{j:Nat}(h:ixN n i=some j):seqIndex? i n=some j/\j<n/\ -(n:Int)<=i/\i<n:=by
 unfold ixN at h;by_cases h0:0<=i
 ·rw[F8 h0]at h;by_cases h1:i<n
  ·rw[F8 h1]at h;have e:i.toNat=j:=GB h;exact⟨by rw[seqIndex_of h0 h1,e],by omega,by omega,h1⟩
  ·rw[F6 h1]at h;cases h
 ·rw[F6 h0]at h;by_cases h1: -(n:Int)<=i
  ·rw[F8 h1]at h;have e:(i+n).toNat=j:=GB h;exact⟨by rw[seqIndex_neg (by omega) h1,e],by omega,h1,by omega⟩
  ·rw[F6 h1]at h;cases h
theorem uv{α:Type}{xs:List α}{i:Int}{v:α}(h:atI xs i=some v):∃j,seqIndex? i xs.length=some j/\xs[j]?=some v/\j<xs.length/\ -(xs.length:Int)<=i/\i<xs.length:=by
 unfold atI at h;cases e:ixN xs.length i with
 |none=>rw[e]at h;cases h
 |some j=>rw[e]at h;obtain⟨h1,h2,h3,h4⟩:=xM e;exact⟨j,h1,h,h2,h3,h4⟩
theorem av{α:Type}{xs:List α}{j:Nat}{v:α}(h:xs[j]?=some v):atI xs (j:Int)=some v:=by
 have hj:j<xs.length:=(Gr.mp h).1;have e:ixN xs.length (j:Int)=some j:=by unfold ixN;rw[F8 (by omega),F8 (by omega)];simp
 unfold atI;rw[e];exact h
def CB(b:Expr):Prop:=∀o i,subscripted b false o i=operate [o,i] (getItem o i)
def IxR(X:Cx)(r:R2):Prop:=
 ∀(value slice:Expr)(pins:List (Addr×Obj))(s:Shared)(σ:St)(H:Hp)(x y:V)(v u:Value)(Q:VK),Inv X pins σ H s->RelV x v->RelV y u->r x y H Q->
  subscripted slice false v u=operate [v,u] (getItem v u)->wpAny (model X.prog X.w) X.A (subscriptTail value slice v u) (EP X pins σ Q) X.xe s
def MtR(X:Cx)(id:String)(r:V->List V->Hp->VK->Prop):Prop:=
 ∀(pins:List (Addr×Obj))(s:Shared)(σ:St)(H:Hp)(x:V)(xs:List V)(v:Value)(us:List Value)(Q:VK),Inv X pins σ H s->RelV x v->Vals xs us->r x xs H Q->
  wpAny (model X.prog X.w) X.A (call (.builtin id) (v::us)) (EP X pins σ Q) X.xe s
section
variable{X:Cx}{a b:Expr}{ta tb:TE}{pos:Pos}
theorem aC{r:R2}(hr:IxR X r)(ha:PE X a ta)(hb:PE X b tb)(hs:CB b):PE X (.Subscript a b pos) (tOp r ta tb):=by intro pins s σ H Q I h;exact Subscript_ (D9 ha hb I h fun v u s2 x y H2 I2 rx ry q=>hr a b pins s2 σ H2 x y v u Q I2 rx ry q (hs _ _))
noncomputable def EK(K:Frag):R2:=fun x y H Q=>∃p xs i v,x=.ref p/\y=.int i/\SqL K H p xs/\atI xs i=some v/\Q v H
noncomputable def EJ(K:Frag):R2:=fun x y H Q=>∃p xs i v,x=.ref p/\y=.int i/\SqT K H p xs/\atI xs i=some v/\Q v H
noncomputable def FF:R2:=fun x y H Q=>∃z i c,x=.str z/\y=.int i/\z.length<=sizeLine/\atI z.cps.toList i=some c/\Q (.str ⟨#[c]⟩) H
theorem bO:IxR X (EK X.K):=by
 intro value slice pins s σ H x y v u Q I rx ry h hs;obtain⟨p,xs,i,z,rfl,rfl,hq,he,q⟩:=h;cases rx;obtain⟨t,rfl⟩:=ry;obtain⟨its,r,pl,hz⟩:=I.list hq;obtain⟨j,h1,h2,h3,h4,h5⟩:=uv he;obtain⟨w,ew,rw'⟩:=r.get h2;have hl:=r.length;have hn:=qf;have fin:EP X pins σ Q w s:=⟨z,H,I,rw',q⟩;by_cases h0:0<=i
 ·have hj:i.toNat=j:=by
   rw[seqIndex_of h0 h5]at h1;exact GB h1
  exact item_listR pl.isList h0 (by omega) (by rw[hj];simpa using ew) fin hs
 ·have hj:(i+(its.toArray.size:Int)).toNat=j:=by
   rw[seqIndex_neg (by omega) h4]at h1;rw[Ga,<-hl];exact GB h1
  exact subscriptTail_builtinR (x:=w) pl.isList.typeIs slot_list_getitem.lookup
   (wpAny_getItem_list_neg (Q:=fun r s'=>r=w/\EP X pins σ Q r s') pl.isList (by omega) (by rw[Ga]<;>omega) (by omega) (by rw[hj];simpa using ew) ⟨rfl,fin⟩) hs
theorem aF:IxR X (EJ X.K):=by
 intro value slice pins s σ H x y v u Q I rx ry h hs;obtain⟨p,xs,i,z,rfl,rfl,hq,he,q⟩:=h;cases rx;obtain⟨t,rfl⟩:=ry;obtain⟨its,r,pl,hz⟩:=I.tuple hq;obtain⟨j,h1,h2,h3,h4,h5⟩:=uv he;obtain⟨w,ew,rw'⟩:=r.get h2;have hl:=r.length;have hn:=qf;have fin:EP X pins σ Q w s:=⟨z,H,I,rw',q⟩;exact subscriptTail_builtinR (x:=w) pl.typeIs slot_tuple_getitem.lookup
  (getItem_tuple (j:=j) (Q:=fun r s'=>r=w/\EP X pins σ Q r s') pl (by omega) (by omega) (by rw[Ga,<-hl];exact h1) (by simpa using ew) ⟨rfl,fin⟩) hs
theorem DS:IxR X FF:=by
 intro value slice pins s σ H x y v u Q I rx ry h hs;obtain⟨z,i,c,rfl,rfl,hz,he,q⟩:=h;obtain⟨t,rfl⟩:=rx;obtain⟨t',rfl⟩:=ry;obtain⟨j,h1,h2,h3,h4,h5⟩:=uv he;have hl:z.cps.toList.length=z.length:=by simp[Str.length]
 rw[hl]at h1 h4 h5;have hn:=qf
 exact tail_any (typeIs_str s z t) slot_str_getitem.lookup (getItem_str (c:=c) (by
  have e1:decide (i< -(2^63:Int))=false:=Gw (by omega);have e2:decide (i>=2^63)=false:=Gw (by omega)
  rw[e1,e2,Bool.or_false]) (by rw[h1];simpa using h2) ⟨.str ⟨#[c]⟩,H,I.tok _,⟨_,rfl⟩,q⟩) hs
theorem wH(its:List Value)(n j:Nat)(u:Value):Obj.mapSeq (·.setIfInBounds j u) {cls:=.type "list",data:=.seq its.toArray n}={cls:=.type "list",data:=.seq (its.set j u).toArray n}:=by simp[Obj.mapSeq]
theorem Inv.lst{pins:List (Addr×Obj)}{σ:St}{H:Hp}{s:Shared}{p:Addr}{xs:List V}(I:Inv X pins σ H s)(h:H p=some (.lst xs)):
  ∃(its:List Value)(n:Nat),Vals xs its/\s.heap.get? p=some {cls:=.type "list",data:=.seq its.toArray n}/\xs.length<=sizeLine:=by
 obtain⟨z,its,n,r,e⟩:=I.hok p _ h;exact⟨its,n,r,e,z⟩
theorem Inv.lstUpd{pins:List (Addr×Obj)}{σ:St}{H:Hp}{s:Shared}{p:Addr}{xs ys:List V}{its its':List Value}{n n':Nat}{f:Obj->Obj}(I:Inv X pins σ H s)(h:H p=some (.lst xs))
  (ho:s.heap.get? p=some {cls:=.type "list",data:=.seq its.toArray n}) (hf:f {cls:=.type "list",data:=.seq its.toArray n}={cls:=.type "list",data:=.seq its'.toArray n'}) (r:Vals ys its') (hz:ys.length<=sizeLine) (t:Nat):
  Inv X pins σ (upd H p (.lst ys)) {s with heap:=s.heap.update p f,toks:=t}:=by
 have e:(s.heap.update p f).get? p=some {cls:=.type "list",data:=.seq its'.toArray n'}:=by rw[G3 f ho (by rw[hf]<;>rfl),hf]
 refine I.write (x:=p) (e:=p) (by rw[h];trivial) (.inl rfl) (fun b u hb q=>(GW _ _ (Hg hb)).trans q) ⟨_,e⟩ ?_;exact⟨hz,its',n',r,e⟩
def EH:V->V->V->Hp->(Hp->Prop)->Prop:=fun o i v H Q=>∃p xs k j,o=.ref p/\i=.int k/\H p=some (.lst xs)/\ixN xs.length k=some j/\Q (upd H p (.lst (xs.set j v)))
theorem set_list:Fd X EH:=by
 intro pins s σ H o i v ov iv u Q I ro ri rv h;obtain⟨p,xs,k,j,rfl,rfl,hp,hj,q⟩:=h;cases ro;obtain⟨t,rfl⟩:=ri;obtain⟨its,n,r,ho,hz⟩:=I.lst hp;obtain⟨h1,h2,h3,h4⟩:=xM hj;have hl:=r.length;have hn:=qf;have I':Inv X pins σ (upd H p (.lst (xs.set j v))) {s with heap:=s.heap.update p (Obj.mapSeq (·.setIfInBounds j u))}:=
  I.lstUpd hp ho (wH its n j u) (r.set rv j) (by rw[List.length_set];exact hz) s.toks
 by_cases h0:0<=k
 ·have hk:k.toNat=j:=by
   rw[seqIndex_of h0 h4]at h1;exact GB h1
  exact PySem.W.ki_setAt ho h0 (by omega) (by rw[Ga,<-hl];exact h4) (by rw[hk];exact⟨_,I',q⟩)
 ·have hk:(k+(its.toArray.size:Int)).toNat=j:=by
   rw[seqIndex_neg (by omega) h3]at h1;rw[Ga,<-hl];exact GB h1
  exact PySem.W.ki_setBack ho (by omega) (by rw[Ga,<-hl];exact h3) (by omega) (by rw[hk];exact⟨_,I',q⟩)
theorem sV(lo hi:Option Int)(n:Nat):(sliceBounds lo hi none n).1=((HT.sIx n 0 lo:Nat):Int)/\(sliceBounds lo hi none n).2.1=((HT.sIx n n hi:Nat):Int)/\(sliceBounds lo hi none n).2.2=1:=by
 refine⟨?_,?_,rfl⟩
 ·cases lo with
  |none=>simp[sliceBounds,HT.sIx]
  |some i=>
   simp only[sliceBounds,HT.sIx,Option.getD_none,show(1:Int)>0 by decide,if_true];by_cases h:i<0
   ·simp only[h,if_true]<;>omega
   ·simp only[h,if_false]<;>omega
 ·cases hi with
  |none=>simp[sliceBounds,HT.sIx]
  |some i=>
   simp only[sliceBounds,HT.sIx,Option.getD_none,show(1:Int)>0 by decide,if_true];by_cases h:i<0
   ·simp only[h,if_true]<;>omega
   ·simp only[h,if_false]<;>omega
theorem qO(its:List Value)(lo hi:Option Int):slicePick its.toArray lo hi none=((its.drop (HT.sIx its.length 0 lo)).take (HT.sIx its.length its.length hi-HT.sIx its.length 0 lo)).toArray:=by obtain⟨h1,h2,h3⟩:=sV lo hi its.toArray.size;unfold slicePick;rw[h1,h2,h3];simp only[sliceRange_one,pick_run,Ga]<;>rfl
def FD(K:Frag):V->Option Int->Option Int->Hp->VK->Prop:=fun x lo hi H Q=>∃a xs,x=.ref a/\SqL K H a xs/\∀p,H p=none->Q (.ref p) (upd H p (.lst (wV xs lo hi)))
theorem Bo:SlR X (FD X.K):=by intro pins s σ H x v vl vu lo hi sl Q I rx hs pl pu h;obtain⟨a,xs,rfl,hx,q⟩:=h;cases rx;obtain⟨its,r,ht,hz⟩:=I.list hx;have hlen:=r.length;refine⟨"list",_,slot_list_getitem.lookup,ht.isList.typeIs,?_⟩;refine wpAny_getItem_list_slice ht.isList hs pl pu .none (by simp) ?_ (by rw[Ga]<;>omega);rw[qO,<-hlen];refine⟨.ref s.heap.objs.size,_,I.laid (t':=s.toks) (o:=.lst (wV xs lo hi)) (fun b ob q=>F0 _ q) (F4 _) ?_,rfl,q _ (I.hok.fresh (F4 _))⟩;exact⟨GA (vH xs lo hi) hz,_,0,(r.drop (HT.sIx xs.length 0 lo)).take (HT.sIx xs.length xs.length hi-HT.sIx xs.length 0 lo),Gm _ rfl⟩
noncomputable def nU:V->Bool
 | .non=>true
 | .bl _=>true
 | .int _=>true
 | .str _=>true
 |_=>false
noncomputable def eqV:V->V->Bool
 | .non,.non=>true
 | .bl a,.bl b=>a==b
 | .bl a,.int b=>(if a then 1 else 0)==b
 | .int a,.bl b=>a==(if b then 1 else 0)
 | .int a,.int b=>a==b
 | .str a,.str b=>a==b
 |_,_=>false
theorem DY{A:Around}{s:Shared}{y x:V}{u v:Value}(ry:RelV y u)(rx:RelV x v)(fy:nU y=true)(fx:nU x=true):SeqAt.EqAt A s u v (eqV y x):=by
 cases y with
 |non=>
  cases ry;cases x with
  |non=>cases rx;exact SeqAt.EqAt.same _
  |bl b=>cases rx;exact SeqAt.EqAt.none_bool b
  |int b=>obtain⟨t,rfl⟩:=rx;exact SeqAt.EqAt.none_int b t
  |str b=>obtain⟨t,rfl⟩:=rx;exact SeqAt.EqAt.none_str b t
  |_=>exact absurd (show false=true from fx) Gv
 |bl a=>
  cases ry;cases x with
  |non=>cases rx;exact SeqAt.EqAt.bool_none a
  |bl b=>cases rx;exact SeqAt.EqAt.bool_bool a b
  |int b=>obtain⟨t,rfl⟩:=rx;exact SeqAt.EqAt.bool_int a b t
  |str b=>obtain⟨t,rfl⟩:=rx;exact SeqAt.EqAt.bool_str a b t
  |_=>exact absurd (show false=true from fx) Gv
 |int a=>
  obtain⟨t',rfl⟩:=ry;cases x with
  |non=>cases rx;exact SeqAt.EqAt.int_none a t'
  |bl b=>cases rx;exact SeqAt.EqAt.int_bool a t' b
  |int b=>obtain⟨t,rfl⟩:=rx;exact SeqAt.EqAt.int_int a t' b t
  |str b=>obtain⟨t,rfl⟩:=rx;exact SeqAt.EqAt.int_str a t' b t
  |_=>exact absurd (show false=true from fx) Gv
 |str a=>
  obtain⟨t',rfl⟩:=ry;cases x with
  |non=>cases rx;exact SeqAt.EqAt.str_none a t'
  |bl b=>cases rx;exact SeqAt.EqAt.str_bool a t' b
  |int b=>obtain⟨t,rfl⟩:=rx;exact SeqAt.EqAt.str_int a t' b t
  |str b=>obtain⟨t,rfl⟩:=rx;exact SeqAt.EqAt.str_str a t' b t
  |_=>exact absurd (show false=true from fx) Gv
 |_=>exact absurd (show false=true from fy) Gv
noncomputable def eqU(x:V)(u:Value):Bool:=match u with
 | .none=>eqV .non x
 | .bool b=>eqV (.bl b) x
 | .int i _=>eqV (.int i) x
 | .str z _=>eqV (.str z) x
 |_=>false
theorem AJ{x y:V}{u:Value}(r:RelV y u)(f:nU y=true):eqU x u=eqV y x:=by
 cases y with
 |non=>cases r;rfl
 |bl b=>cases r;rfl
 |int i=>obtain⟨t,rfl⟩:=r;rfl
 |str z=>obtain⟨t,rfl⟩:=r;rfl
 |_=>exact absurd (show false=true from f) Gv
theorem uw{x:V}:∀{xs:List V}{us:List Value},Vals xs us->xs.all nU=true->us.any (eqU x)=xs.any fun y=>eqV y x
 |_,_,.nil,_=>rfl
 |y::xs,u::us,.cons r t,f=>by rw[List.all_cons,G8]at f;rw[Hw,Hw,AJ r f.1,uw t f.2]
theorem qc{A:Around}{s:Shared}{x:V}{v:Value}(rx:RelV x v)(fx:nU x=true):∀{xs:List V}{us:List Value},Vals xs us->xs.all nU=true->∀u∈us,SeqAt.EqAt A s u v (eqU x u)
 |_,_,.nil,_=>fun u hu=>by cases hu
 |y::xs,u::us,.cons r t,f=>fun u' hu=>by
  rw[List.all_cons,G8]at f;rcases Gg.mp hu with rfl|hu
  ·rw[AJ r f.1];exact DY r rx f.1 fx
  ·exact qc rx fx t f.2 u' hu
noncomputable def inV(x:V)(xs:List V):Bool:=xs.any fun y=>eqV y x
noncomputable def rIn(K:Frag)(neg:Bool):R2:=fun x y H Q=>∃p xs,y=.ref p/\(SqL K H p xs\/SqT K H p xs)/\nU x=true/\xs.all nU=true/\Q (.bl (if neg then !inV x xs else inV x xs)) H
theorem rY:OpR X (compareOp .In) (rIn X.K false):=by
 intro pins s σ H x y v u Q I rx ry h;obtain⟨p,xs,rfl,hq,fx,fs,q⟩:=h;cases ry;rcases hq with hq|hq
 ·obtain⟨its,r,pl,hz⟩:=I.list hq;refine SeqAt.in_listAt (eqU x) pl.isList (fun w hw=>qc rx fx r fs w (by simpa using hw)) ⟨.bl _,H,I,rfl,?_⟩;rw[show its.toArray.any (eqU x)=its.any (eqU x) by simp,uw r fs];exact q
 ·obtain⟨its,r,pl,hz⟩:=I.tuple hq;refine SeqAt.in_tupleAt (eqU x) pl (fun w hw=>qc rx fx r fs w (by simpa using hw)) ⟨.bl _,H,I,rfl,?_⟩;rw[show its.toArray.any (eqU x)=its.any (eqU x) by simp,uw r fs];exact q
theorem bG:dU X (.builtin "len") (fun xs H Q=>∃p ys,xs=[.ref p]/\(SqL X.K H p ys\/SqT X.K H p ys)/\Q (.int ys.length) H):=by
 intro pins s σ H xs us Q I r h;obtain⟨p,ys,rfl,hq,q⟩:=h;obtain⟨u,rfl,rx⟩:=vals1 r;cases rx;have hn:=qf;rcases hq with hq|hq
 ·obtain⟨its,r',pl,hz⟩:=I.list hq;have hlen:=r'.length;exact Calls.call_len_list pl.isList (by simp only[Ga]<;>omega) ⟨.int ys.length,H,I.tok _,⟨s.toks+1,by rw[Ga,hlen]⟩,q⟩
 ·obtain⟨its,r',pl,hz⟩:=I.tuple hq;have hlen:=r'.length;exact len_tuple pl (by simp only[Ga]<;>omega) ⟨.int ys.length,H,I.tok _,⟨s.toks+1,by rw[Ga,hlen]⟩,q⟩
theorem uo:dU X (.type "list") (fun xs H Q=>∃p ys,xs=[.ref p]/\(SqL X.K H p ys\/SqT X.K H p ys)/\∀l,H l=none->Q (.ref l) (upd H l (.lst ys))):=by
 intro pins s σ H xs us Q I r h;obtain⟨p,ys,rfl,hq,q⟩:=h;obtain⟨u,rfl,rx⟩:=vals1 r;cases rx;have fin:∀(its:List Value),Vals ys its->ys.length<=sizeLine->∀(h':Heap)(c':Nat),(∀b o',s.heap.get? b=some o'->h'.get? b=some o')->
   h'.get? s.heap.objs.size=some {cls:=.type "list",dict:=none,data:=.seq its.toArray c',slots:= #[]}->EP X pins σ Q (.ref s.heap.objs.size) {s with heap:=h'}:=fun its r' hz h' c' kp e=>
  ⟨.ref s.heap.objs.size,_,I.laid (t':=s.toks) kp (F4 _) (show bN X.prog X.w _ h' _ (.lst ys)from⟨hz,its,c',r',e⟩),rfl,q _ (I.hok.fresh (F4 _))⟩
 rcases hq with hq|hq
 ·obtain⟨its,r',pl,hz⟩:=I.list hq;have hlen:=r'.length;obtain⟨o,ho,hc,n,hd⟩:=pl.isList;exact call_list_seq p (.inl rfl) ho hc hd (fun h' c' kp e=>fin its r' hz h' c' kp e) (by simp only[Ga]<;>omega)
 ·obtain⟨its,r',pl,hz⟩:=I.tuple hq;have hlen:=r'.length;obtain⟨o,ho,hc,n,hd⟩:=pl;exact call_list_seq p (.inr rfl) ho hc hd (fun h' c' kp e=>fin its r' hz h' c' kp e) (by simp only[Ga]<;>omega)
theorem eK:dU X (.type "tuple") (fun xs H Q=>∃p ys,xs=[.ref p]/\((SqL X.K H p ys/\∀l,H l=none->Q (.ref l) (upd H l (.tup ys)))\/(SqT X.K H p ys/\Q (.ref p) H))):=by
 intro pins s σ H xs us Q I r h;obtain⟨p,ys,rfl,h⟩:=h;obtain⟨u,rfl,rx⟩:=vals1 r;cases rx;rcases h with⟨hq,q⟩|⟨hq,q⟩
 ·obtain⟨its,r',pl,hz⟩:=I.list hq;have hlen:=r'.length;refine call_tuple_list pl.isList (fun h' kp=>?_) (by simp only[Ga]<;>omega);have I1:Inv X pins σ H {s with heap:=h'}:=I.kept (t':=s.toks) kp;have I2:Inv X pins σ (upd H h'.objs.size (.tup ys)) {s with heap:=h'.push {cls:=.type "tuple",data:=.seq its.toArray}}:=
   I1.laid (t':=s.toks) (fun b o e=>F0 _ e) (F4 _) (show bN X.prog X.w _ _ _ (.tup ys)from⟨hz,its,r',IsTup.new _ _⟩)
  exact⟨.ref h'.objs.size,_,I2,rfl,q _ (I1.hok.fresh (F4 _))⟩
 ·obtain⟨its,r',pl,hz⟩:=I.tuple hq;exact call_tuple_same pl ⟨.ref p,H,I,rfl,q⟩
def tyV(K:Frag)(T:String)(x:V)(H:Hp):Prop:=match x with
 | .str _=>T="str"
 | .int _=>T="int"
 | .ref p=>(T="list"/\∃xs,SqL K H p xs)\/(T="tuple"/\∃o,K.lookup p=some o/\o.cls=.type "tuple"/\o.dict=none)\/
  (T="dict"/\((∃kvs,H p=some (.dK kvs))\/∃kvs,H p=some (.dT kvs)))\/(T="set"/\∃S n,H p=some (.set S n))
 |_=>False
theorem zk{pins:List (Addr×Obj)}{σ:St}{H:Hp}{s:Shared}{T:String}{x:V}{v:Value}(I:Inv X pins σ H s)(r:RelV x v)(ty:tyV X.K T x H):
  s.TypeIs v T/\∀a,v=.ref a->∃ob,s.heap.get? a=some ob/\ob.dict=none:=by
 cases x with
 |str z=>obtain⟨t,rfl⟩:=r;cases (show T="str" from ty);exact⟨typeIs_str s z t,fun _ e=>nomatch e⟩
 |int i=>obtain⟨t,rfl⟩:=r;cases (show T="int" from ty);exact⟨typeIs_int s i t,fun _ e=>nomatch e⟩
 |ref p=>
  cases r;rcases ty with⟨rfl,xs,hq⟩|⟨rfl,o,hk,hc,hd⟩|⟨rfl,hk⟩|⟨rfl,S,n,hk⟩
  ·obtain⟨its,_,pl,_⟩:=I.list hq;refine⟨pl.isList.typeIs,fun a e=>?_⟩;cases e;obtain⟨o,n,e,c,hd,_⟩:=pl;exact⟨o,e,hd⟩
  ·refine⟨⟨o,I.kIn p o hk,hc⟩,fun a e=>?_⟩;cases e;exact⟨o,I.kIn _ o hk,hd⟩
  ·have z:∃o,s.heap.get? p=some o/\o.ExactDict:=by
    rcases hk with⟨kvs,hk⟩|⟨kvs,hk⟩
    ·obtain⟨_,_,_,_,o,_,_,e,ex,_⟩:=I.hok p _ hk;exact⟨o,e,ex⟩
    ·obtain⟨_,_,_,_,o,_,_,e,ex,_⟩:=I.hok p _ hk;exact⟨o,e,ex⟩
   obtain⟨o,e,ex⟩:=z;refine⟨⟨o,e,ex.1⟩,fun a e2=>?_⟩;cases e2;exact⟨o,e,ex.2.1⟩
  ·obtain⟨o,_,_,_,e,ex,_⟩:=I.hok p _ hk;refine⟨⟨o,e,ex.1⟩,fun a e2=>?_⟩;cases e2;exact⟨o,e,ex.2.1⟩
 |_=>exact False.elim ty
def Fz(K:Frag)(T:String)(r:V->List V->Hp->VK->Prop)(to:TE):TE:=fun σ H Q=>to σ H fun x H1=>tyV K T x H1/\r x [] H1 Q
def tBM(K:Frag)(T:String)(r:V->List V->Hp->VK->Prop)(to:TE)(t:TA):TE:=fun σ H Q=>to σ H fun x H1=>tyV K T x H1/\t σ H1 fun xs H2=>r x xs H2 Q
variable{o e:Expr}{es:List Expr}{to:TE}{t:TA}{name:Str}{apos cpos:Pos}{T id:String}{r:V->List V->Hp->VK->Prop}
theorem zW(pa:PlainAttrs T)(slot:Slot T name id)(hty:typeOf (.builtin id)=pure (.type "method_descriptor"))(hm:MtR X id r)(ho:PE X o to)
  (hbase:attributeBase o name X.env (eval o X.env)=eval o X.env:=by rfl) (hline:(apos.endLine==cpos.line)=true:=by rfl):PE X (.Call (.Attribute o name apos) [] [] cpos) (Fz X.K T r to):=by
 intro pins s σ H Q I h;refine wpAny_Call_method0_late hbase hline (thn (ho pins s σ H _ I h) fun v s1 hPz=>?_);obtain⟨x,H1,I1,r1,ty,q1⟩:=hPz;obtain⟨h1,h2⟩:=zk I1 r1 ty;exact⟨T,id,pa,slot,hty,h1,h2,Calls.callWith_builtin rfl (PySem.evalArgs_none (hm pins s1 σ H1 x [] v [] Q I1 r1 .nil q1))⟩
theorem kA(pa:PlainAttrs T)(slot:Slot T name id)(hty:typeOf (.builtin id)=pure (.type "method_descriptor"))(hm:MtR X id r)(ho:PE X o to)(ha:PA X (e::es) t)
  (hbase:attributeBase o name X.env (eval o X.env)=eval o X.env:=by rfl)
  (hfew:((backTo cpos (starEach (e::es) X.env)).all (fun x=> !x.1)&&(backToKw cpos (keywordEach [] X.env)).all (fun x=>x.1.isSome)
   &&decide ((e::es).length+([]:List Keyword).length+(if([]:List Keyword).isEmpty then 0 else 1)<30))=true:=by rfl)
  (hline:(apos.endLine==cpos.line)=true:=by rfl) (hs:starEach (e::es) X.env=(false,eval e X.env)::starEach es X.env:=by rfl) (hplain:(backTo cpos (starEach es X.env)).any (·.1)=false:=by rfl):
  PE X (.Call (.Attribute o name apos) (e::es) [] cpos) (tBM X.K T r to t):=by
 intro pins s σ H Q I h;refine wpAny_Call_method_late hbase hfew hline rfl (thn (ho pins s σ H _ I h) fun v s1 hPz=>?_);obtain⟨x,H1,I1,r1,ty,q1⟩:=hPz;obtain⟨h1,h2⟩:=zk I1 r1 ty;refine⟨T,id,pa,slot,hty,h1,h2,?_⟩;have hA:=ha cpos pins s1 σ H1 _ I1 q1;rw[hs]at hA ⊢;refine Calls.callWith_builtin (by show(false||(backTo cpos (starEach es X.env)).any (·.1))=false;rw[hplain]<;>rfl) (Calls.evalArgs_plain ?_);exact thn hA fun us s2 hPz=>L2.ep3 hPz fun vs H2 I2 r2 q2=>hm pins s2 σ H2 x vs v us Q I2 r1 r2 q2
end
def MtM(X:Cx)(id:String)(r:V->List V->Hp->VK->Prop):Prop:=
 ∀(pins:List (Addr×Obj))(s:Shared)(σ:St)(H:Hp)(x:V)(xs:List V)(v:Value)(us:List Value)(Q:VK),Inv X pins σ H s->RelV x v->Vals xs us->r x xs H Q->
  wpAny (model X.prog X.w) X.A (call (.builtin id) (v::us)) (EP X pins σ Q) X.xe s
theorem Vals.one:∀{x:V}{us:List Value},Vals [x] us->∃u,us=[u]/\RelV x u
 |_,_,.cons r .nil=>⟨_,rfl,r⟩
theorem Vals.zero:∀{us:List Value},Vals [] us->us=[]
 |_,.nil=>rfl
theorem Vals.dropLast{xs:List V}{us:List Value}(h:Vals xs us):Vals xs.dropLast us.dropLast:=by
 induction h with
 |nil=>exact .nil
 |cons r t ih=>
  cases t with
  |nil=>exact .nil
  |cons q t'=>exact .cons r ih
theorem Vals.reverse{xs:List V}{us:List Value}(h:Vals xs us):Vals xs.reverse us.reverse:=by
 induction h with
 |nil=>exact .nil
 |cons r t ih=>rw[List.reverse_cons,List.reverse_cons];exact Vals.append ih (.cons r .nil)
theorem wU{α:Type}(l:List α):l.eraseIdx (l.length-1)=l.dropLast:=by
 induction l with
 |nil=>rfl
 |cons a r ih=>
  cases r with
  |nil=>rfl
  |cons b r=>
   have e:(a::b::r).length-1=((b::r).length-1)+1:=by have h1:(a::b::r).length=r.length+2:=rfl;have h2:(b::r).length=r.length+1:=rfl;omega
   rw[e,List.eraseIdx_cons_succ,ih]
   all_goals rfl
section
variable{X:Cx}{pins:List (Addr×Obj)}{σ:St}{H:Hp}{s:Shared}{l b:Addr}{xs ys zs:List V}
theorem Inv.lset{its its':List Value}{n:Nat}{f:Array Value->Array Value}{t':Nat}(I:Inv X pins σ H s)(hH:H l=some (.lst xs))
  (e:s.heap.get? l=some {cls:=.type "list",data:=.seq its.toArray n}) (hf:f its.toArray=its'.toArray) (hv:Vals ys its') (hz:ys.length<=sizeLine):
  Inv X pins σ (upd H l (.lst ys)) {s with heap:=s.heap.update l (Obj.mapSeq f),toks:=t'}:=by
 have q:=PySem.IsL.update e f;rw[hf]at q;refine I.write (x:=l) (e:=l) (by rw[hH];exact trivial) (.inl rfl) (fun b' u hb hu=>(GW s.heap (Obj.mapSeq f) (Hg hb)).trans hu) ⟨_,q⟩ ?_;exact⟨hz,its',_,hv,q⟩
theorem Inv.lnew{its:List Value}{t':Nat}(I:Inv X pins σ H s)(hv:Vals ys its)(hz:ys.length<=sizeLine):
  Inv X pins σ (upd H s.heap.objs.size (.lst ys)) {s with heap:=s.heap.push {cls:=.type "list",data:=.seq its.toArray},toks:=t'}:=
 I.laid (fun _ _ q=>F0 _ q) (F4 _) ⟨hz,its,0,hv,Gm _ rfl⟩
theorem Inv.fresh(I:Inv X pins σ H s):H s.heap.objs.size=none:=I.hok.fresh (F4 _)
theorem Inv.lstM(I:Inv X pins σ H s)(hH:H l=some (.lst xs)):xs.length<=sizeLine/\∃(its:List Value)(n:Nat),Vals xs its/\xs.length=its.length/\s.heap.get? l=some {cls:=.type "list",data:=.seq its.toArray n}:=by obtain⟨z,its,n,r,e⟩:=I.hok l _ hH;exact⟨z,its,n,r,r.length,e⟩
end
section
variable{X:Cx}
def By:V->List V->Hp->VK->Prop:=fun x vs H Q=>∃l xs y,x=.ref l/\vs=[y]/\H l=some (.lst xs)/\xs.length<sizeLine/\Q .non (upd H l (.lst (xs++[y])))
theorem dy:MtM X "list.append" By:=by intro pins s σ H x vs v us Q I rx rv h;obtain⟨l,xs,y,rfl,rfl,hH,hz,q⟩:=h;cases rx;obtain⟨u,rfl,ru⟩:=rv.one;obtain⟨z,its,n,r,hl,e⟩:=I.lstM hH;refine call_meets F.slot_list_append ⟨_,e,rfl⟩ F.entry_list_append (F.args_list_append_2 _ _) (PySem.list_append l its.toArray n u (by rw[Ga];omega)) ⟨e,?_⟩;refine⟨.non,_,I.lset (its':=its++[u]) hH e (by simp) (r.append (.cons ru .nil)) ?_,rfl,q⟩;rw[Gd,G7];omega
def FE:V->List V->Hp->VK->Prop:=fun x vs H Q=>∃l xs y,x=.ref l/\vs=[]/\H l=some (.lst xs)/\xs[xs.length-1]?=some y/\Q y (upd H l (.lst xs.dropLast))
theorem DF:MtM X "list.pop" FE:=by
 intro pins s σ H x vs v us Q I rx rv h;obtain⟨l,xs,y,rfl,rfl,hH,hy,q⟩:=h;cases rx;have hus:=rv.zero;subst hus;obtain⟨z,its,n,r,hl,e⟩:=I.lstM hH;obtain⟨u,hu,ru⟩:=r.get hy;have hy':its.toArray[its.toArray.size-1]?=some u:=by show its.toArray[its.length-1]?=some u;rw[<-Hl,<-hl];exact hu
 refine call_meets F.slot_list_pop ⟨_,e,rfl⟩ F.entry_list_pop (F.args_list_pop_1 _) (MeetsSeq.list_pop_last l its.toArray n u hy' (by rw[Ga];omega)) ⟨e,?_⟩;refine⟨y,_,I.lset (its':=its.dropLast) hH e ?_ r.dropLast ?_,ru,q⟩
 ·show its.toArray.eraseIdxIfInBounds (its.toArray.size-1)=its.dropLast.toArray;rw[Ga,List.eraseIdxIfInBounds_toArray,wU]
 ·rw[List.length_dropLast];omega
def zH:V->List V->Hp->VK->Prop:=fun x vs H Q=>∃l xs,x=.ref l/\vs=[]/\H l=some (.lst xs)/\Q .non (upd H l (.lst xs.reverse))
theorem wD:MtM X "list.reverse" zH:=by intro pins s σ H x vs v us Q I rx rv h;obtain⟨l,xs,rfl,rfl,hH,q⟩:=h;cases rx;have hus:=rv.zero;subst hus;obtain⟨z,its,n,r,hl,e⟩:=I.lstM hH;refine call_meets F.slot_list_reverse ⟨_,e,rfl⟩ F.entry_list_reverse (F.args_list_reverse_1 _) (AutoSeq1.list_reverse_list_0 l its.toArray n (by rw[Ga];omega)) ⟨e,?_⟩;refine⟨.non,_,I.lset (its':=its.reverse) hH e (by simp) r.reverse ?_,rfl,q⟩;rw[List.length_reverse];omega
noncomputable def FI:R2:=fun x y H Q=>∃l b xs zs,x=.ref l/\y=.ref b/\H l=some (.lst xs)/\H b=some (.lst zs)/\xs.length+zs.length<=sizeLine/\∀p,H p=none->Q (.ref p) (upd H p (.lst (xs++zs)))
theorem Aa:OpR X (binaryOp .Add) FI:=by
 intro pins s σ H x y v u Q I rx ry h;obtain⟨l,b,xs,zs,rfl,rfl,hH,hB,hz,q⟩:=h;cases rx;cases ry;obtain⟨z,its,n,r,hl,e⟩:=I.lstM hH;obtain⟨z2,its2,n2,r2,hl2,e2⟩:=I.lstM hB;refine PySem.P.add_list e e2 ?_ (by rw[Ga,Ga];omega);have ea:its.toArray++its2.toArray=(its++its2).toArray:=by simp
 rw[ea];exact⟨.ref _,_,I.lnew (t':=s.toks) (r.append r2) (by rw[Gd];omega),rfl,q _ I.fresh⟩
end
end L2
namespace Att
open PySem PySem.W PySem.Calls PyProof.Rows
theorem oj{P:Params}{h:Heap}:∀(ns:List Int)(vs:List Value),WellAll P h vs (ns.map WData.int)->IntsAre vs ns:=by
 intro ns
 induction ns with
 |nil=>intro vs w;rw[HH]at w;cases w;exact .nil
 |cons n ns ih=>
  intro vs w;rw[F9]at w;cases w with
  |cons a b=>cases a;exact .cons _ _ (ih _ b)
theorem yg{l:OpenLaw}{n:Nat}(hn:l.most=some n){P:Params}{h:Heap}{args:List WData}{vals:List Value}
  (hpre:l.row.toRowW.claim.pre args=true) (hwl:WellAll P h vals args):
  ∃a vs ns,vals=[Value.ref a]/\args=[WData.list (ns.map WData.int)]/\h.get? a=some {cls:=.type "list",data:=.seq vs.toArray}/\IntsAre vs ns/\ns.length<=n:=by
 have hsh:WShape.hasAll [] args [.list .int]=true:=(pre_splitW hpre).1;have hc:l.pre.holds [] {args:=args}=true:=(pre_splitW hpre).2;obtain⟨d,r,rfl,h1,h2⟩:=hasAllW_cons hsh;obtain rfl:=hasAllW_nil h2;obtain⟨xs,rfl,h3⟩:=hasW_list h1;obtain⟨ns,rfl⟩:=items_int h3;have hlen:ns.length<=n:=by
  unfold OpenLaw.pre at hc;have h4:(WTm.not (.lt (.lit (.int (n:Int))) (.len (.arg 0)))).holds [] {args:=[.list (ns.map .int)]}=true:=by have h4:=(holds_andW hc).1;rw[hn]at h4;exact h4
  have h5:=condW_of h4 (w_not (w_lt w_lit (w_len_list (w_arg rfl))));rw[FY]at h5;refine Nat.le_of_not_lt fun q=>?_;have q':(n:Int)<((ns.length:Nat):Int):=by omega
  first
   |(rw[Gp q']at h5;exact absurd h5 (by decide))
   |(simp at h5;omega)
 cases hwl with
 |cons w1 w2=>
  cases w2;cases w1 with
  |list ho hall=>exact⟨_,_,ns,rfl,rfl,ho,oj ns _ hall,hlen⟩
theorem yl(l:OpenLaw)(args:List WData):l.row.toRowW.claim.post args (.bool true) args=true:=
 postW_of (r:=l.row.toRowW) (X:=(true==true))
  (show WShape.has [] (.bool true) .bool=true by first|rfl|decide|simp[WShape.has,WShape.arms,WShape.armsAll])
  (show(WTm.eq .res (.lit (.bool true))).value [] {args:=args,res:=some (.bool true),after:=args}=some (.bool (true==true))from w_eq_bool (w_res rfl) w_lit) rfl
theorem vO{l:OpenLaw}{n:Nat}{q:Program}{loose:List Str}{XP:(Str->Option Value)->Heap->Prop}{YP:World->Heap->Prop}{d:DefRec}
  (hn:l.most=some n) (hdf:d.params.defaults=[])
  (call:∀(w:World)(s₀ s₁:Shared)(mg mb:Str->Option Value)(fa:Addr)(o:Obj)(pm cd doc:Value)(a:Addr)(vs:List Value)(ns:List Int),
   Ground q loose [] XP w s₀ mg mb s₁.heap->YP w s₁.heap->
   s₁.heap.get? fa=some o->o.data=.func (docDef d.name d.params d.body d.scope pm cd doc)->s₁.heap.CodeRec cd d.name->mg d.name=some (.ref fa)->
   s₁.heap.get? a=some {cls:=.type "list",data:=.seq vs.toArray}->IntsAre vs ns->ns.length<=n->s₁.gens= #[]->
   codeAny (model l.prog w) callerA (.call (.ref fa) ⟨[.ref a],[]⟩) (fun r s'=>r=.ok (.ret (.bool true))/\OldK s₁.heap s'.heap/\s'.os=s₁.os/\AllBare s'.gens) s₁):
  WalkO q loose XP YP l.row.toRowW d [] (fun f vs=>PySem.call f vs):=by
 intro w s₀ s₁ mg mb G Y fa o pm cd doc dV kV ho hd hcd hD hmg hg args vals as hpre hlay hrd hwl hlo;obtain rfl:dV=.none:=Dflts.none hD hdf;obtain rfl:kV=.none:=Dflts.noKw hD;obtain⟨a,vs,ns,rfl,rfl,hobj,hints,hlen⟩:=yg hn hpre hwl;refine enter_call (codeAny_mono (call w s₀ s₁ mg mb fa o pm cd doc a vs ns G Y ho (fd_plain hd) hcd hmg hobj hints hlen hg) fun r s' hq=>?_);obtain⟨rfl,h2,h3,h4⟩:=hq;exact⟨.inl ⟨.bool true,.bool true,[],rfl,fun _=>rfl,.bool true,yl l _,fun _=>⟨List.Pairwise.nil,fun _ hm=>(nomatch hm)⟩⟩,h2,h3,h4⟩
end Att
namespace L2
open PySem PySem.Spec PyProof.Rows
theorem x9{vs:List Value}{ns:List Int}(hI:IntsAre vs ns):Vals (ns.map V.int) vs:=by
 induction hI with
 |nil=>exact .nil
 |cons n t h ih=>exact .cons ⟨t,rfl⟩ (ih)
def CC(H:Hp):Prop:=∀b,H b=none\/∃o xs,H b=some (.frz o (.lst xs))
theorem Ao{P:Program}{w:World}{K:Frag}{mg mb:Str->Option Value}{CX:CXT}{k:Nat}{fa a:Addr}{fd:FuncData}{x:Str}{sp:Sp}{s₁:Shared}{vs:List Value}{ns:List Int}
  (KX:K.In s₁.heap) (hns:s₁.heap.Ns mainGlobals mg) (hb:s₁.heap.Ns builtinsNs mb) (hbb:∀x:Str,x≠"__name__"->mb x=bootBuiltins x) (hlim:s₁.heap.NoLimit) (hg:s₁.gens= #[])
  (ha:s₁.heap.get? a=some {cls:=.type "list",data:=.seq vs.toArray}) (hi:IntsAre vs ns) (hl:ns.length<=sizeLine) (hr:cb k callerA)
  (F:∀base:Heap,K.In base->base.Ns mainGlobals mg->ji P w K mg base CX k fa fd [x] sp) (hbind:∀(s:Shared)(u:Value),BindsTo s fd ⟨[u],[]⟩ [(x,u)])
  (hsp:∀H:Hp,CC H->SqL K H a (ns.map V.int)->sp [.ref a] H (fun v _=>v=.bl true) fun _ _ _=>False)
  (hCX:∀H e s',CX [] H s₁ (fun _ _ _=>False) e s'->False):
  codeAny (model P w) callerA (.call (.ref fa) ⟨[.ref a],[]⟩) (fun r s'=>r=.ok (.ret (.bool true))/\OldK s₁.heap s'.heap/\s'.os=s₁.os/\AllBare s'.gens) s₁:=by
 have rv:=x9 hi;have lenV:=hi.length;have core:∀H:Hp,CC H->SqL K H a (ns.map V.int)->HOk P w H s₁.heap->(∀b,H b≠none->b=a)->(H a≠none->K.lookup a=none)->
   codeAny (model P w) callerA (.call (.ref fa) ⟨[.ref a],[]⟩) (fun r s'=>r=.ok (.ret (.bool true))/\OldK s₁.heap s'.heap/\s'.os=s₁.os/\AllBare s'.gens) s₁:=by
  intro H hO hS hok hA hK;have base_of:∀{b:Addr}{o:Obj},s₁.heap.get? b=some o->H b=none->(ua s₁.heap H).get? b=some o:=fun e n=>Ay e n;have noA:∀{b:Addr}{o:Obj}{es:Array DictEntry}{ep:Nat},s₁.heap.get? b=some o->o.data=.dict es ep->H b=none:=fun {b o es ep} e d=>by
   cases q:H b with
   |none=>rfl
   |some u=>have e':b=a:=hA b (by rw[q];simp);subst e';rw[ha]at e;cases e;have d':Data.seq vs.toArray _=Data.dict es ep:=d;cases d'
  have nsK:∀{b:Addr}{m:Str->Option Value},s₁.heap.Ns b m->(ua s₁.heap H).Ns b m:=fun {b m} ⟨o,es,ep,e,d,r⟩=>⟨o,es,ep,base_of e (noA e d),d,r⟩
  have hKb:K.In (ua s₁.heap H):=fun b o e=>base_of (KX b o e) (by
   cases q:H b with
   |none=>rfl
   |some u=>
    have e':b=a:=hA b (by rw[q];simp);subst e'
    rw[hK (by rw[q];simp)]at e;cases e)
  have hM:Mod K mg (ua s₁.heap H):=⟨hKb,nsK hns,⟨mb,nsK hb,hbb⟩,let ⟨mc,h1,h2⟩:=hlim;⟨mc,nsK h1,h2⟩⟩;have e0:vU P w K mg (ua s₁.heap H) callerA [] s₁ H:=⟨rfl,hM,fun b o e=>BP e,Nat.le_of_eq (yG _ _),trivial,fun b hb=>absurd (show b∈([]:List Addr)from hb) (by simp),hok,.of_eq hg⟩;refine codeAny_mono ((F _ hKb (nsK hns)).run callerA [] s₁ H ⟨[.ref a],[]⟩ [.ref a] [.ref a] _ _ hr e0 (hbind s₁ (.ref a)) (.cons rfl .nil) (hsp H hO hS)) fun r s' h=>?_;cases r with
  |error e=>exact(hCX H e s' h).elim
  |ok fl=>
   cases fl with
   |next=>exact False.elim h
   |brk=>exact False.elim h
   |cont=>exact False.elim h
   |ret u=>
    obtain⟨v,H',os,bare,un,hok',r',q⟩:=h;have q':v=.bl true:=q;subst q';obtain rfl:u=Value.bool true:=r';refine⟨rfl,OldK.of_keep fun b o e=>?_,os,bare⟩;cases q:H b with
    |none=>exact un.keep b o e q (by intro z;exact absurd (show b∈([]:List Addr)from z) (by simp)) (by simp)
    |some u=>
     rcases hO b with z|⟨ob,xs,z⟩
     ·rw[q]at z;cases z
     ·have z2:=un.frzs b ob _ z;obtain⟨e1,_⟩:=hok b _ z;obtain⟨e2,_⟩:=hok' b _ z2;rw[e]at e1;cases e1;exact e2
 cases hk:K.lookup a with
 |some o=>have e:=KX a o hk;rw[ha]at e;cases e;refine core (fun _=>none) (fun _=>.inl rfl) (.inr ⟨_,vs.toArray,_,hk,rfl,rfl,rfl,by rw[Ga,lenV];exact hl,by simpa using rv⟩) (fun b u z=>by have z':(none:Option HO)=some u:=z;cases z') (fun b z=>absurd rfl z) fun z=>absurd rfl z
 |none=>
  refine core (fun b=>if b=a then some (.frz {cls:=.type "list",data:=.seq vs.toArray} (.lst (ns.map V.int)))else none) (fun b=>?_) (.inl (.inr ⟨{cls:=.type "list",data:=.seq vs.toArray},F8 rfl⟩)) (fun b u z=>?_) (fun b z=>?_) fun _=>hk
  ·by_cases hb:b=a
   ·exact .inr ⟨_,_,F8 hb⟩
   ·exact .inl (F6 hb)
  ·by_cases hb:b=a
   ·have z':=(F8 hb).symm.trans z;cases z';subst hb;exact⟨ha,by rw[FY];exact hl,vs,_,rv,ha⟩
   ·have z':=(F6 hb).symm.trans z;cases z'
  ·by_cases hb:b=a
   ·exact hb
   ·exact absurd (F6 hb) z
noncomputable abbrev KOf{K:Frag}{h:Heap}(_:K.In h):Frag:=K
theorem Bg{l:PySem.W.OpenLaw}{n k:Nat}{q:Program}{loose:List Str}{XP:(Str->Option Value)->Heap->Prop}{YP:World->Heap->Prop}{d:DefRec}{K:Params->Frag}{CX:World->CXT}{sp:World->Sp}{x:Str}
  (hn:l.most=some n) (hn2:n<=sizeLine) (hdf:d.params.defaults=[]) (hr:cb k callerA)
  (hY:∀(w:World)(h:Heap),YP w h->(K w.params).In h)
  (F:∀(w:World)(mg:Str->Option Value)(fa:Addr)(h:Heap),(K w.params).In h->h.Ns mainGlobals mg->mg d.name=some (.ref fa)->
   ∃fd:FuncData,(∀(s:Shared)(u:Value),BindsTo s fd ⟨[u],[]⟩ [(x,u)])/\
    ∀base:Heap,(K w.params).In base->base.Ns mainGlobals mg->ji l.prog w (K w.params) mg base (CX w) k fa fd [x] (sp w))
  (hsp:∀(w:World)(H:Hp)(a:Addr)(ns:List Int),ns.length<=n->CC H->SqL (K w.params) H a (ns.map V.int)->sp w [.ref a] H (fun v _=>v=.bl true) fun _ _ _=>False)
  (hCX:∀(w:World)(H:Hp)(s:Shared)(e:Value)(s':Shared),CX w [] H s (fun _ _ _=>False) e s'->False):
  PySem.W.WalkO q loose XP YP l.row.toRowW d [] (fun f vs=>PySem.call f vs):=by
 refine Att.vO hn hdf fun w s₀ s₁ mg mb fa o pm cd doc a vs ns G Y ho hd hcd hmg hobj hints hlen hg=>?_;have KX:=hY w _ Y;obtain⟨fd,hb,hF⟩:=F w mg fa _ KX G.T.g hmg;exact Ao KX G.T.g G.T.b G.T.builtins G.T.nolimit hg hobj hints (GA hlen hn2) hr hF hb (fun H hO hS=>hsp w H a ns hlen hO hS) fun H e s'=>hCX w H s₁ e s'
theorem zh{l:PySem.W.OpenLaw}{n k:Nat}{q:Program}{loose:List Str}{XP:(Str->Option Value)->Heap->Prop}{YP:World->Heap->Prop}{d:DefRec}{K:Params->Frag}{CX:CXT}{sp:Frag->Sp}{x:Str}
  (hn:l.most=some n) (hn2:n<=sizeLine) (hdf:d.params.defaults=[]) (hr:cb k callerA)
  (hY:∀(w:World)(h:Heap),YP w h->(K w.params).In h)
  (F:∀(w:World)(mg:Str->Option Value)(fa:Addr)(h:Heap),(K w.params).In h->h.Ns mainGlobals mg->mg d.name=some (.ref fa)->
   ∃fd:FuncData,(∀(s:Shared)(u:Value),BindsTo s fd ⟨[u],[]⟩ [(x,u)])/\
    ∀base:Heap,(K w.params).In base->base.Ns mainGlobals mg->ji l.prog w (K w.params) mg base CX k fa fd [x] (sp (K w.params)))
  (hsp:∀(K:Frag)(H:Hp)(a:Addr)(ns:List Int),ns.length<=n->CC H->SqL K H a (ns.map V.int)->sp K [.ref a] H (fun v _=>v=.bl true) fun _ _ _=>False)
  (hCX:∀(H:Hp)(s:Shared)(e:Value)(s':Shared),CX [] H s (fun _ _ _=>False) e s'->False):
  PySem.W.WalkO q loose XP YP l.row.toRowW d [] (fun f vs=>PySem.call f vs):=
 Bg (K:=K) (CX:=fun _=>CX) (sp:=fun w=>sp (K w.params)) hn hn2 hdf hr hY F (fun w H a ns h1 h2 h3=>hsp (K w.params) H a ns h1 h2 h3) fun _ H s e s'=>hCX H s e s'
noncomputable def cD(s:Stmt):Arguments:=match s with
 | .FunctionDef _ a _ _ _ _ _ _ _ _=>a
 |_=>{posonlyargs:=[],args:=[],vararg:=none,kwonlyargs:=[],kw_defaults:=[],kwarg:=none,defaults:=[]}
noncomputable def bB(s:Stmt):List Stmt:=match s with
 | .FunctionDef _ _ b _ _ _ _ _ _ _=>b
 |_=>[]
noncomputable def aq(s:Stmt):Scope:=match s with
 | .FunctionDef _ _ _ _ _ _ sc _ _ _=>sc
 |_=>{kind:=.function,names:=[],isGenerator:=false,isCoroutine:=false}
noncomputable abbrev CX0:CXT:=fun _ _ _ _ _ _=>False
noncomputable abbrev E0:XK:=fun _ _ _=>False
theorem nQ{X:Cx}:Passes CX0 X E0:=fun _ _ _ _ _ _ _ h=>h.elim
structure Fun(K:Frag)(x qual:Str)(st:Stmt)(f:Addr)(fd:FuncData):Prop where
 ex:∃(oc:Value)(od:Option Addr)(kV doc pm:Value)(an:Option Addr)(cdv ct:Value)(osl:Array (Option Value)),
  fd=fnOf x qual (cD st) (bB st) (aq st) .none kV doc pm an cdv ct/\K.lookup f=some ⟨oc,od,.func fd,osl⟩/\codeIn K cdv qual=true
 kp:keepIn K (.ref f)=true
section
variable{P:Program}{w:World}{K:Frag}{mg:Str->Option Value}{base:Heap}
theorem Fun.ok{x qual:Str}{st:Stmt}{f:Addr}{fd:FuncData}{N ps:List Str}{k:Nat}{sp:Sp}(F:Fun K x qual st f fd)(S:aD N ps (aq st))(len:∀vs H Q E,sp vs H Q E->vs.length=ps.length)
  (hbody:∀(cdv:Value)(A:Around)(outer:List Env)(s:Shared)(H:Hp)(vs:List V)(Q:VK)(E:XK),cb k (A.deeper (envOfC qual (aq st) s.heap.objs.size f cdv))->sp vs H Q E->
   ∃t,PSs (cT CX0 P w K mg base N qual (aq st) f cdv A outer s H E).nox (bB st) t/\t {nx:=fun _ H'=>Q .non H',rt:=Q} (start N vs) H):ji P w K mg base CX0 (k+1) f fd ps sp:=by
 obtain⟨oc,od,kV,doc,pm,an,cdv,ct,osl,rfl,lk,hcd⟩:=F.ex;refine vq lk hcd S len fun A outer s H vs Q E hr hsp=>?_;obtain⟨t,h,q⟩:=hbody cdv A outer s H vs Q E hr hsp;exact⟨t,h.nox,q⟩
theorem Fun.binds{x qual:Str}{st:Stmt}{f:Addr}{fd:FuncData}{ps:List Str}(F:Fun K x qual st f fd)
  (h:∀(kV doc pm:Value)(an:Option Addr)(cdv ct:Value)(us:List Value),us.length=ps.length->bindArgs (fnOf x qual (cD st) (bB st) (aq st) .none kV doc pm an cdv ct) ⟨us,[]⟩=pure (ps.zip us)):Binds K fd ps []:=by
 obtain⟨oc,od,kV,doc,pm,an,cdv,ct,osl,rfl,lk,hcd⟩:=F.ex;exact .all (h kV doc pm an cdv ct)
theorem qk{x qual:Str}{st:Stmt}{f:Addr}{oc:Value}{od an:Option Addr}{osl:Array (Option Value)}{kV doc pm cdv ct:Value}(l:K.lookup f=some ⟨oc,od,.func (fnOf x qual (cD st) (bB st) (aq st) .none kV doc pm an cdv ct),osl⟩)
 (c:codeIn K cdv qual=true) (k:keepIn K (.ref f)=true):Fun K x qual st f (fnOf x qual (cD st) (bB st) (aq st) .none kV doc pm an cdv ct):=⟨⟨oc,od,kV,doc,pm,an,cdv,ct,osl,rfl,l,c⟩,k⟩
end
theorem fC{A:Around}{k:Nat}(hr:cb k A):A.units+1<cLine:=Nat.lt_of_le_of_lt (Nat.add_le_add_left (by decide:1<=64) _) hr.units
theorem aN{n:Nat}(h:n<=1000):n<sizeLine:=Nat.lt_of_le_of_lt h (by decide)
section
variable{X:Cx}
theorem pv(i:Nat){x:Str}{pos:Pos}(hN:X.N[i]?=some x:=by rfl)(hv:Vis X.env.scope x:=by first|exact Or.inl rfl|exact Or.inr (Or.inl rfl)|exact Or.inr (Or.inr rfl))(hd:(x==("__debug__":Str))=false:=by decide)
 (hcd:(x==("__classdict__":Str))=false:=by decide):PE X (.Name x pos) (El i):=Dw hN hv hd hcd
end
theorem fq{A B:Prop}(h:B):if false=true then A else B:=by rw[F6 Gv];exact h
theorem jh{A B:Prop}(h:A):if true=true then A else B:=by rw[F8 rfl];exact h
theorem bj{c A B:Prop}[Decidable c](h1:c->A)(h2:¬c->B):if c then A else B:=by
 by_cases h:c
 ·rw[F8 h];exact h1 h
 ·rw[F6 h];exact h2 h
def aw(H H':Hp):Prop:=∀b o,H b=some o->H' b=some o
theorem aw.refl(H:Hp):aw H H:=fun _ _ h=>h
theorem aw.trans{H H1 H2:Hp}(a:aw H H1)(b:aw H1 H2):aw H H2:=fun c o h=>b c o (a c o h)
theorem aw.free{H H':Hp}(e:aw H H'){l:Addr}(h:H' l=Option.none):H l=Option.none:=by
 cases q:H l with
 |none=>rfl
 |some o=>rw[e l o q]at h;cases h
theorem aw.seq{K:Frag}{H H':Hp}{a:Addr}{xs:List V}(e:aw H H')(h:SqL K H a xs):SqL K H' a xs:=by
 rcases h with(h|⟨o,h⟩)|h
 ·exact .inl (.inl (e _ _ h))
 ·exact .inl (.inr ⟨o,e _ _ h⟩)
 ·exact .inr h
section
variable{X:Cx}
noncomputable abbrev dC(X:Cx)(N':List Str)(scope:Scope)(cl:List (Str×Addr))(C:Addr)(ex:List Addr)(s:Shared)(H:Hp):Cx where
 prog:=X.prog
 w:=X.w
 K:=X.K
 mg:=X.mg
 base:=X.base
 A:=X.A
 N:=N'
 s₀:=s
 H₀:=H
 env:=compEnvC scope cl C X.env
 outer:=X.stack
 stack:=X.stack
 ex:=ex
 fn:=fun x=>(cl.lookup x).isNone
 calm:=X.calm
 pn:=[]
 xe:=fun _ _=>False
def A6(X:Cx)(ifs:List Expr)(t:TT):Prop:=
 ∀(pins:List (Addr×Obj))(s:Shared)(σ:St)(H:Hp)(Q:Bool->Hp->Prop),Inv X pins σ H s->t σ H Q->
  wpAny (model X.prog X.w) X.A (forIn ifs true fun c r=>if r=true then do let ok <-isTrue c X.env (eval c X.env);pure (ForInStep.yield ok)else pure (ForInStep.yield r)) (TP X pins σ Q) X.xe s
def Fj:TT:=fun _ H Q=>Q true H
theorem cC:A6 X [] Fj:=fun _ _ _ H _ I h=>wpAny_tests_nil ⟨H,I,h⟩
theorem iD{c:Expr}{t:TT}(h:PT X c t):A6 X [c] t:=fun pins s σ H Q I q=>wpAny_tests_one (h pins s σ H Q I q)
def Wk(σ σ2:St):Prop:=σ.length=σ2.length/\∀(i:Nat) v,σ[i]?=some (some v)->σ2[i]?=some (some v)
noncomputable def gf(n:Nat)(js:List Nat)(σ:St):St:=List.replicate n none++js.map fun j=>(σ[j]?).join
def CL(wi:TI)(g:TG)(tt:TT)(te:TE)(n:Nat)(js:List Nat):TE:=fun σ H Q=>wi σ H fun J H1=>∀D,H1 D=none->∃W:Nat->Nat->List V->Hp->Prop,(∃m,W 0 m [] (upd H1 D (.lst [])))/\∀i m acc H2,W i m acc H2->
 (J.stop i H2/\Q (.ref D) H2)\/(J.go i H2/\∃N:List V->Hp->Prop,(∀acc' H',N acc' H'->∃m',m'<m/\W (i+1) m' acc' H')/\∀x H3,J.yld i H2 x H3->g x (gf n js σ) H3 fun σ2 H4=>tt σ2 H4 fun b H5=>
  if b=true then te σ2 H5 fun y H6=>H6 D=some (.lst acc)/\acc.length<sizeLine/\N (acc++[y]) (upd H6 D (.lst (acc++[y])))else N acc H5)
theorem Aw{pins:List (Addr×Obj)}{σ:St}{H:Hp}{s:Shared}{fp:List Addr}{scope:Scope}{cl:List (Str×Addr)}{own:List Str}{fr:List (Str×Nat)}{h1:Heap}{m0:Str->Option Value}{tk:Nat}
  (I:Inv X pins σ H s) (hf:∀b∈fp,ot X pins H b) (hlt:∀b∈fp,b<s.heap.objs.size) (hkind:scope.kind=.function)
  (hcl:∀x c,cl.lookup x=some c->X.env.cells.lookup x=some c)
  (hkin:∀x,((relabel scope X.env).names.lookup x=some .cell\/(relabel scope X.env).names.lookup x=some .free)->∃c,cl.lookup x=some c)
  (hfr:∀p∈fr,X.N[p.2]?=some p.1/\X.env.kindOf p.1=some .cell)
  (hvis:∀p∈fr,(relabel scope X.env).names.lookup p.1=some .cell)
  (hn:h1.Ns s.heap.objs.size m0) (kk:∀b u,s.heap.get? b=some u->h1.get? b=some u):
  Inv (dC X (own++fr.map (·.1)) scope cl s.heap.objs.size fp s H) [] (gf own.length (fr.map (·.2)) σ) H {s with heap:=h1,toks:=tk}:=by
 refine⟨⟨I.ok.mod,hkind,I.ok.glob,I.ok.blt,F4 _,fun x y c e1 e2=>I.ok.inj x y c (hcl x c e1) (hcl y c e2),hkin,fun x c h e=>?_,I.ok.hd,I.ok.frames,.inl rfl,fun b hb=>?_,I.bs,GA I.ok.bsz I.sz,fun b o e hb=>?_,fun b hb z=>?_,I.stack,I.stkFree⟩,
  rfl,I.bare,Un.kept kk,⟨m0,hn,fun i x v e1 e2 e3=>?_⟩,fun x c e=>?_,I.hok.fresh (F4 _),fun x c e=>I.freeC x c (hcl x c e),fun p hp=>absurd (show p∈([]:List (Addr×Obj))from hp) (by simp),I.hok.kept kk,?_⟩
 ·have h':(cl.lookup x).isNone=true:=h;have e':cl.lookup x=some c:=e;rw[e']at h';cases h'
 ·exact⟨Gz (hlt b hb),fun x c e=>(hf b hb).2.2.2.2.1 x c (hcl x c e)⟩
 ·rcases (hf b hb).2.2.2.1 with z|z
  ·exact I.ok.noex b o e z
  ·exact absurd (F5 (Gf (I.ok.bs b o e).1) z) (HF _)
 ·rcases Gg.mp (I.stkSub b z)with e|e
  ·exact(hf b hb).2.1 e
  ·exact(hf b hb).2.2.1 e
 ·have e1':(own++fr.map (·.1))[i]?=some x:=e1;have e2':(List.replicate own.length none++(fr.map (·.2)).map fun j=>(σ[j]?).join)[i]?=some (some v):=e2;by_cases hi:i<own.length
  ·rw[List.getElem?_append_left (by simpa using hi),List.getElem?_replicate]at e2';split at e2'<;>cases e2'
  ·rw[List.getElem?_append_right (by omega)]at e1';rw[List.getElem?_append_right (by simpa using hi)]at e2';simp only[List.length_replicate,Gn,Option.map_map]at e1' e2';cases q:fr[i-own.length]? with
   |none=>rw[q]at e1';cases e1'
   |some p=>
    rw[q]at e1' e2';simp only[Option.map_some,Option.some.injEq]at e1' e2';subst e1';have hp:p∈fr:=Gb q;obtain⟨m,_,hl⟩:=I.loc;have e3':σ[p.2]?=some (some v):=by
     cases z:σ[p.2]? with
     |none=>rw[Function.comp_apply,z]at e2';cases e2'
     |some y=>rw[Function.comp_apply,z]at e2';simp only[Option.join]at e2';rw[<-e2'];rfl
    obtain⟨u,r,l⟩:=hl p.2 p.1 v (hfr p hp).1 e3' (.inr (.inl (hfr p hp).2));refine⟨u,r,?_⟩;rcases l with⟨k,_⟩|⟨_,c,hc,z⟩
    ·rw[(hfr p hp).2]at k;cases k
    ·obtain⟨c',hc'⟩:=hkin p.1 (.inl (hvis p hp));have e4:=hcl _ _ hc';rw[hc]at e4;cases e4;obtain⟨o,ho,hd⟩:=z;exact .inr ⟨.inl (hvis p hp),c,hc',⟨o,kk _ _ ho,hd⟩⟩
 ·obtain⟨v,o,ho,hd⟩:=I.cell x c (hcl x c e);exact⟨v,o,kk _ _ ho,hd⟩
 ·show(gf own.length (fr.map (·.2)) σ).length=(own++fr.map (·.1)).length;simp[gf]
theorem uk{prog:Program}{w:World}{A:Around}{R:Result->Shared->Prop}{s:Shared}{elt target iter:Expr}{ifs:List Expr}{scope:Scope}{pos:Pos}{it acc:Value}{env:Env}(I:Nat->Shared->Prop)
  (turn:∀n s,I n s->wpAny (model prog w) A (pyNext it) (fun r s₁=>match r with
   |none=>R (.ok .next) s₁
   |some v=>wpAny (model prog w) A (letOwnedTupleGo target it v) (fun _ s₁'=>wpAny (model prog w) A (assign target env v) (fun _ s₂=>
    wpAny (model prog w) A (forIn ifs true fun c r=>if r=true then do let ok <-isTrue c env (eval c env);pure (ForInStep.yield ok)else pure (ForInStep.yield r)) (fun ok s₃=>
     if ok=true then wpAny (model prog w) A (eval elt env) (fun x s₄=>wpAny (model prog w) A (call (.builtin "list.append") [acc,x]) (fun _ s₅=>∃m,m<n/\I m s₅) (notedBy (model prog w) A env fun e s'=>R (.error e) s') s₄) (notedBy (model prog w) A env fun e s'=>R (.error e) s') s₃
     else ∃m,m<n/\I m s₃) (notedBy (model prog w) A env fun e s'=>R (.error e) s') s₂) (notedBy (model prog w) A env fun e s'=>R (.error e) s') s₁') (notedBy (model prog w) A env fun e s'=>R (.error e) s') s₁) (notedBy (model prog w) A env fun e s'=>R (.error e) s') s)
  (n:Nat) (h:I n s):
  codeAny (model prog w) A (.compLoop (.ListComp elt [⟨target,iter,ifs,0⟩] scope pos) 0 it acc env) R s:=by
 refine codeAny_loop rfl I (fun n s hI=>?_) n h;show wpAny _ A ((compTurn (.ListComp elt [⟨target,iter,ifs,0⟩] scope pos) 0 it acc env).onRaise (fun x=>do noteFrame x env;theTreesLotGoes x)) _ _ s;refine wpAny_noted ?_;rw[compTurn_list];refine FZ (wpAny_standAt (FZ (Gy (turn n s hI) (fun r s₁ h₁=>?_) fun _ _ h'=>h')));cases r with
 |none=>exact F3 h₁
 |some v=>
  refine FZ (Gy h₁ (fun _ s₁' h₁'=>?_) fun _ _ h'=>h');refine FZ (Gy h₁' (fun _ s₂ h₂=>FZ (Gy h₂ (fun ok s₃ h₃=>?_) fun _ _ h'=>h')) fun _ _ h'=>h');cases ok with
  |false=>exact F3 ⟨rfl,h₃⟩
  |true=>exact FZ (FZ (Gy h₃ (fun x s₄ h₄=>FZ (Gy h₄ (fun _ s₅ h₅=>F3 (F3 ⟨rfl,h₅⟩)) fun _ _ h'=>h')) fun _ _ h'=>h'))
theorem qp{elt tg iter:Expr}{ifs:List Expr}{scope:Scope}{pos:Pos}{g:TG}{tt:TT}{te:TE}{own:List Str}{fr:List (Str×Nat)}{cl:List (Str×Addr)}
  {pins:List (Addr×Obj)} {σ:St} {H:Hp} {s:Shared} {Q:VK} {it D:Addr} {fp:List Addr} {tn:Nat->Heap->Prop} {J:It} {W:Nat->Nat->List V->Hp->Prop} {m0:Nat} {RR:Value->Addr->Result->Shared->Prop}
  (hRR:∀(s6:Shared)(H5:Hp)(m:Str->Option Value),Inv X pins σ H5 s6->s6.heap.Ns s.heap.objs.size m->ot X pins H5 s.heap.objs.size->Q (.ref D) H5->RR (.ref D) s.heap.objs.size (.ok .next) s6)
  (hc:X.calm=true) (hkind:scope.kind=.function) (hnc:∀y∈scope.names,y.2≠ .cell)
  (hcl:∀x c,cl.lookup x=some c->X.env.cells.lookup x=some c)
  (hkin:∀x,((relabel scope X.env).names.lookup x=some .cell\/(relabel scope X.env).names.lookup x=some .free)->∃c,cl.lookup x=some c)
  (hfr:∀p∈fr,X.N[p.2]?=some p.1/\X.env.kindOf p.1=some .cell) (hvis:∀p∈fr,(relabel scope X.env).names.lookup p.1=some .cell)
  (hw:∀x σ H R,σ.length=own.length+fr.length->(∀(i:Nat),i<own.length->σ[i]?=some none)->g x σ H R->g x σ H fun σ2 H2=>Wk σ σ2/\R σ2 H2)
  (hg:∀C ex s H,PG (dC X (own++fr.map (·.1)) scope cl C ex s H) tg g)
  (ht:∀C ex s H,A6 (dC X (own++fr.map (·.1)) scope cl C ex s H) ifs tt)
  (he:∀C ex s H,PE (dC X (own++fr.map (·.1)) scope cl C ex s H) elt te)
  (I:Inv X pins σ H s) (T:Turn X.prog X.w X.K tg J fp it tn) (st:tn 0 s.heap) (hf:∀b∈fp,ot X pins H b) (w0:W 0 m0 [] H)
  (turn:∀i m acc H2,W i m acc H2->(J.stop i H2/\Q (.ref D) H2)\/(J.go i H2/\∃N:List V->Hp->Prop,(∀acc' H',N acc' H'->∃m',m'<m/\W (i+1) m' acc' H')/\∀x H3,J.yld i H2 x H3->g x (gf own.length (fr.map (·.2)) σ) H3 fun σ2 H4=>tt σ2 H4 fun b H5=>if b=true then te σ2 H5 fun y H6=>H6 D=some (.lst acc)/\acc.length<sizeLine/\N (acc++[y]) (upd H6 D (.lst (acc++[y])))else N acc H5)):
  wpAny (model X.prog X.w) X.A (newFunctionEnv scope X.env.globals cl [] X.env.qual none .none (some X.env)) (fun cenv s₄=>
   codeAny (model X.prog X.w) X.A (.compStart (.ListComp elt [⟨tg,iter,ifs,0⟩] scope pos) 0 (.ref it) (.ref D) {cenv with scope:=relabel scope X.env})
    (RR (.ref D) cenv.locals) s₄) X.xe s:=by
 have hlt:∀b∈fp,b<s.heap.objs.size:=fun b hb=>by obtain⟨o,e,_⟩:=T.obj 0 _ st b hb;exact Gf e
 refine wpAny_newFunctionEnv hnc (by intro y hy;simp at hy) (fun h₁ hns hsb=>?_) hkind;have kk:∀b u,s.heap.get? b=some u->h₁.get? b=some u:=fun b u e=>(hsb.2 b (Gz (Gf e))).trans (F0 _ e);have I4:Inv (dC X (own++fr.map (·.1)) scope cl s.heap.objs.size fp s H) [] (gf own.length (fr.map (·.2)) σ) H {s with heap:=h₁,toks:=s.toks+([]:List (Str×Value)).length}:=
  Aw I hf hlt hkind hcl hkin hfr hvis hns kk
 have st4:tn 0 h₁:=T.keep _ _ _ st fun b _ o e=>kk b o e;have hσ:(gf own.length (fr.map (·.2)) σ).length=own.length+fr.length:=by simp[gf]
 have hσ0:∀(i:Nat),i<own.length->(gf own.length (fr.map (·.2)) σ)[i]?=some none:=fun i hi=>by unfold gf;rw[List.getElem?_append_left (by simpa using hi),List.getElem?_replicate,F8 hi]
 have stat:∀{H':Hp},(∀b∈fp,H' b=none)->∀b∈fp,ot (dC X (own++fr.map (·.1)) scope cl s.heap.objs.size fp s H) [] H' b:=fun hn b hb=>⟨hn b hb,Gz (hlt b hb),fun z=>(Gg.mp (I.stkSub b z)).elim (hf b hb).2.1 (hf b hb).2.2.1,.inl hb,fun x c e=>(hf b hb).2.2.2.2.1 x c (hcl x c e),fun p hp=>absurd (show p∈([]:List (Addr×Obj))from hp) (by simp)⟩
 have loop:∀s4:Shared,s4={s with heap:=h₁,toks:=s.toks+([]:List (Str×Value)).length}->
   codeAny (model X.prog X.w) X.A (.compLoop (.ListComp elt [⟨tg,iter,ifs,0⟩] scope pos) 0 (.ref it) (.ref D) (compEnvC scope cl s.heap.objs.size X.env))
    (RR (.ref D) s.heap.objs.size) s4:=by
  rintro s4 rfl;refine uk (fun n s'=>∃i acc H',Inv (dC X (own++fr.map (·.1)) scope cl s.heap.objs.size fp s H) [] (gf own.length (fr.map (·.2)) σ) H' s'/\tn i s'.heap/\(∀b∈fp,H' b=none)/\W i n acc H') ?_ m0
   ⟨0,[],H,I4,st4,fun b hb=>(hf b hb).1,w0⟩
  rintro n s5 ⟨i,acc,H5,I5,st5,fr5,w5⟩;rcases turn i n acc H5 w5 with⟨stop,q⟩|⟨go,N,hN,step⟩
  ·refine Gy (T.done (dC X (own++fr.map (·.1)) scope cl s.heap.objs.size fp s H) rfl rfl rfl hc i [] s5 _ H5 _ I5 (stat fr5) st5 stop) (fun r s6 ⟨hr,I6⟩=>?_) (fun _ _ z=>z);subst hr;obtain⟨m6,hn6,_⟩:=id I6.loc;have I7:Inv X pins σ H5 s6:=I.call' (ch:=fp) I6.os I6.base I6.hok I6.bare (fun b hb=>⟨(hf b hb).2.2.2.1,(hf b hb).2.1,(hf b hb).2.2.2.2.1,(hf b hb).2.2.2.2.2⟩);exact hRR s6 H5 m6 I7 hn6 (I.fpOk (H':=H5) (F4 _) I6.free) q
  ·refine Gy (T.item (dC X (own++fr.map (·.1)) scope cl s.heap.objs.size fp s H) rfl rfl rfl hc i [] s5 _ H5 _ I5 (stat fr5) st5 go) (fun r s6 hPz=>?_) (fun _ _ z=>z);obtain⟨u,hr,h6⟩:=hPz;subst hr;refine Gy h6 (fun _ s7 hPz=>?_) (fun _ _ z=>z);obtain⟨x,H7,I7,r7,y7,st7,fr7⟩:=hPz;have I7':=I7.pinned (stat fr7) (T.obj _ _ st7);refine Gy (hg s.heap.objs.size fp s H _ s7 _ H7 x u _ I7' r7 (hw x _ H7 _ hσ hσ0 (step x H7 y7))) (fun _ s8 hPz=>?_) (fun _ _ z=>False.elim z);obtain⟨σ8,H8,I8,wk,q8⟩:=hPz;have again:∀{s10:Shared}{H10:Hp}{acc':List V},Inv (dC X (own++fr.map (·.1)) scope cl s.heap.objs.size fp s H) ([]++pM fp s7.heap) σ8 H10 s10->N acc' H10->
     ∃m,m<n/\∃i acc H',Inv (dC X (own++fr.map (·.1)) scope cl s.heap.objs.size fp s H) [] (gf own.length (fr.map (·.2)) σ) H' s10/\tn i s10.heap/\(∀b∈fp,H' b=none)/\W i m acc H':=fun {s10 H10 acc'} I10 n10=>by
    obtain⟨m',hm,w10⟩:=hN acc' H10 n10;refine⟨m',hm,i+1,acc',H10,I10.unpinned.weak wk.1 wk.2,T.keep _ _ _ st7 fun b hb o e=>(I10.pin (b,o) (Gx _ (Gx _ (iX hb e)))).1,fun b hb=>?_,w10⟩;obtain⟨o,e,d⟩:=T.obj _ _ st7 b hb;exact(I10.pin (b,o) (Gx _ (Gx _ (iX hb e)))).2.1
   refine Gy (ht s.heap.objs.size fp s H _ s8 σ8 H8 _ I8 q8) (fun b s9 hPz=>?_) (fun _ _ z=>False.elim z);obtain⟨H9,I9,q9⟩:=hPz;cases b with
   |false=>exact again I9 q9
   |true=>refine Gy (he s.heap.objs.size fp s H _ s9 σ8 H9 _ I9 q9) (fun y s10 hPz=>?_) (fun _ _ z=>False.elim z);obtain⟨yv,H10,I10,r10,hD,hl,n10⟩:=hPz;refine Gy (dy (X:=dC X (own++fr.map (·.1)) scope cl s.heap.objs.size fp s H) _ s10 σ8 H10 (.ref D) [yv] (.ref D) [y] (fun _ H'=>H'=upd H10 D (.lst (acc++[yv]))) I10 rfl (.cons r10 .nil) ⟨D,acc,yv,rfl,rfl,hD,hl,rfl⟩) (fun _ s11 hPz=>?_) (fun _ _ z=>False.elim z);obtain⟨_,H11,I11,_,e11⟩:=hPz;subst e11;exact again I11 n10
 exact codeAny_compStart_list (loop _ rfl) (T.self _ 0 _ _ _ st4 (loop _ rfl))
theorem bZ{elt tg iter:Expr}{ifs:List Expr}{scope:Scope}{pos:Pos}{wi:TI}{g:TG}{tt:TT}{te:TE}(own:List Str)(fr:List (Str×Nat))(cl:List (Str×Addr))
  (hc:X.calm=true) (hclos:closureFor scope X.env=pure cl) (hkind:scope.kind=.function) (hnc:∀y∈scope.names,y.2≠ .cell)
  (hnames:∀y∈scope.names,y.2=.local->scope.names.lookup y.1=some .local)
  (hcl:∀x c,cl.lookup x=some c->X.env.cells.lookup x=some c)
  (hkin:∀x,((relabel scope X.env).names.lookup x=some .cell\/(relabel scope X.env).names.lookup x=some .free)->∃c,cl.lookup x=some c)
  (hfr:∀p∈fr,X.N[p.2]?=some p.1/\X.env.kindOf p.1=some .cell) (hvis:∀p∈fr,(relabel scope X.env).names.lookup p.1=some .cell)
  (hw:∀x σ H R,σ.length=own.length+fr.length->(∀(i:Nat),i<own.length->σ[i]?=some none)->g x σ H R->g x σ H fun σ2 H2=>Wk σ σ2/\R σ2 H2)
  (hi:PI X tg iter wi)
  (hg:∀C ex s H,PG (dC X (own++fr.map (·.1)) scope cl C ex s H) tg g)
  (ht:∀C ex s H,A6 (dC X (own++fr.map (·.1)) scope cl C ex s H) ifs tt)
  (he:∀C ex s H,PE (dC X (own++fr.map (·.1)) scope cl C ex s H) elt te)
  (hs:∀x,foldedSetIterable iter X.env x=pure x:=by intro _;rfl):
  PE X (.ListComp elt [⟨tg,iter,ifs,0⟩] scope pos) (CL wi g tt te own.length (fr.map (·.2))):=by
 intro pins s σ H Q I h;rw[eval_ListComp];refine wpAny_comprehension_free (use:=none) rfl hs hclos hkind hnames (thn (hi pins s σ H _ I h) fun v s1 h1=>thn h1 fun itv s2 h2=>?_);obtain⟨it,fp,tn,J,H2,e,I2,T,st2,f2,h2⟩:=h2;subst e;obtain⟨W,⟨m0,w0⟩,turn⟩:=h2 s2.heap.objs.size I2.fresh;have I3:=I2.lnew (its:=[]) (ys:=[]) (t':=s2.toks) .nil (GO _);refine wpAny_newObj_type (T:="list") ?_;refine qp (RR:=fun acc C=>compPost (model X.prog X.w) X.A X.xe none (EP X pins σ Q) acc C) (W:=W) (m0:=m0) (D:=s2.heap.objs.size) (own:=own) (fr:=fr)
  (fun s6 H5 m I7 hn fc q=>⟨m,hn,fun h7 sb=>⟨.ref s2.heap.objs.size,H5,I7.turned (t':=s6.toks) (fun b o hb e=>(sb.2 b hb).trans e) fc.1 fc.2.1 fc.2.2.2.1 fc.2.2.2.2.1 fc.2.2.2.2.2,rfl,q⟩⟩) hc hkind hnc hcl hkin hfr hvis hw hg ht he I3 T (T.keep _ _ _ st2 fun b _ o e=>F0 _ e) (fun b hb=>?_) w0 turn
 obtain⟨o,e,_⟩:=T.obj _ _ st2 b hb;exact⟨by rw[az (Gz (Gf e))];exact(f2 b hb).1,(f2 b hb).2⟩
theorem oz{elt tg iter:Expr}{ifs:List Expr}{scope:Scope}{pos spos py:Pos}{y:Str}{i:Nat}{wi:TI}{g:TG}{tt:TT}{te:TE}(hN:X.N.Nodup)(hiy:X.N[i]?=some y)(hy:Loc X.env.scope y)(own:List Str)(fr:List (Str×Nat))(cl:List (Str×Addr))
  (hc:X.calm=true) (hclos:closureFor scope X.env=pure cl) (hkind:scope.kind=.function) (hnc:∀y∈scope.names,y.2≠ .cell)
  (hnames:∀y∈scope.names,y.2=.local->scope.names.lookup y.1=some .local)
  (hcl:∀x c,cl.lookup x=some c->X.env.cells.lookup x=some c)
  (hkin:∀x,((relabel scope X.env).names.lookup x=some .cell\/(relabel scope X.env).names.lookup x=some .free)->∃c,cl.lookup x=some c)
  (hfr:∀p∈fr,X.N[p.2]?=some p.1/\X.env.kindOf p.1=some .cell) (hvis:∀p∈fr,(relabel scope X.env).names.lookup p.1=some .cell)
  (hw:∀x σ H R,σ.length=own.length+fr.length->(∀(i:Nat),i<own.length->σ[i]?=some none)->g x σ H R->g x σ H fun σ2 H2=>Wk σ σ2/\R σ2 H2)
  (hi:PI X tg iter wi)
  (hg:∀C ex s H,PG (dC X (own++fr.map (·.1)) scope cl C ex s H) tg g)
  (ht:∀C ex s H,A6 (dC X (own++fr.map (·.1)) scope cl C ex s H) ifs tt)
  (he:∀C ex s H,PE (dC X (own++fr.map (·.1)) scope cl C ex s H) elt te)
  (hsw:swapsWith (.ListComp elt [⟨tg,iter,ifs,0⟩] scope pos) (some (.Name y py)) spos.line X.env=pure true:=by rfl)
  (hs:∀x,foldedSetIterable iter X.env x=pure x:=by intro _;rfl)
  (hf:X.fn y=true\/X.env.scope.names.lookup y=some .local:=by first|exact .inl rfl|exact .inr rfl|assumption):
  PS X (.Assign [.Name y py] (.ListComp elt [⟨tg,iter,ifs,0⟩] scope pos) spos) (Dk (CL wi g tt te own.length (fr.map (·.2))) (kF i)):=by
 intro pins s σ H D I h;rw[exec_Assign_Name_used _ _ _ _ hsw];refine FZ (wpAny_standAt (FZ ?_));show wpAny _ _ (do let _ <-comprehension (.ListComp elt [⟨tg,iter,ifs,0⟩] scope pos) scope X.env _ (newList []) false (eval iter X.env) (some (assign (.Name y py) X.env))) _ _ s;refine FZ (Gy (wpAny_comprehension_free (use:=some (assign (.Name y py) X.env)) (Q:=fun _ s'=>SP X pins D .next s') rfl hs hclos hkind hnames (thn (hi pins s σ H _ I h) fun v s1 h1=>thn h1 fun itv s2 h2=>?_)) (fun _ s' hq=>F3 (F3 hq)) fun _ _ e=>e);obtain⟨it,fp,tn,J,H2,e,I2,T,st2,f2,h2⟩:=h2;subst e;obtain⟨W,⟨m0,w0⟩,turn⟩:=h2 s2.heap.objs.size I2.fresh;have I3:=I2.lnew (its:=[]) (ys:=[]) (t':=s2.toks) .nil (GO _);refine wpAny_newObj_type (T:="list") ?_;refine qp (Q:=fun v H5=>kF i v σ H5 D.nx) (RR:=fun acc C=>compPost (model X.prog X.w) X.A X.xe (some (assign (.Name y py) X.env)) (fun _ s'=>SP X pins D .next s') acc C) (W:=W) (m0:=m0) (D:=s2.heap.objs.size) (own:=own) (fr:=fr)
  (fun s6 H5 m I7 hn fc q=>?_) hc hkind hnc hcl hkin hfr hvis hw hg ht he I3 T (T.keep _ _ _ st2 fun b _ o e=>F0 _ e) (fun b hb=>?_) w0 turn
 ·show wpAny _ _ (assign (.Name y py) X.env (.ref s2.heap.objs.size)) _ _ _;refine wpAny_assign_Name (rK (v:=.ref s2.heap.objs.size) I7 hN hiy hy rfl (fun s' I' hsb=>?_) hf);obtain⟨a,sb,ha⟩:=hsb;have hne:s2.heap.objs.size+1≠a\/True:=.inr trivial;have hCa:a≠({s2 with heap:=s2.heap.push {cls:=.type "list",data:=.seq ([]:List Value).toArray},toks:=s2.toks}:Shared).heap.objs.size:=by
   rcases ha with rfl|ha
   ·exact Hg fc.2.1
   ·exact fc.2.2.2.2.1 y a ha
  refine⟨m,hn.sameBut sb (Hg hCa),fun h7 sb7=>?_⟩;exact⟨_,H5,I'.turned (t':=s'.toks) (fun b o hb e=>(sb7.2 b hb).trans e) fc.1 fc.2.1 fc.2.2.2.1 fc.2.2.2.2.1 fc.2.2.2.2.2,q⟩
 ·obtain⟨o,e,_⟩:=T.obj _ _ st2 b hb;exact⟨by rw[az (Gz (Gf e))];exact(f2 b hb).1,(f2 b hb).2⟩
noncomputable def gg(env:Env)(xs:List Str):List (Str×Addr):=xs.map fun x=>(x,(env.cells.lookup x).getD 0)
noncomputable def CU(names:List (Str×NameKind))(xs:List Str):Bool:=names.all fun p=>(!(decide (p.2=.cell))&& !(decide (p.2=.free)))||decide (p.1∈xs)
theorem nV{env:Env}:∀{xs:List Str}{x:Str},x∈xs->∃c,(gg env xs).lookup x=some c
 | [],_,h=>absurd h (by simp)
 |y::xs,x,h=>by
  show ∃c,List.lookup x ((y,(env.cells.lookup y).getD 0)::gg env xs)=some c;rw[List.lookup_cons];cases e:x==y with
  |true=>exact⟨_,rfl⟩
  |false=>
   rcases Gg.mp h with rfl|h
   ·rw[beq_self_eq_true]at e;cases e
   ·exact nV h
theorem aW{env:Env}:∀{xs:List Str},(xs.all fun x=>(env.cells.lookup x).isSome)=true->∀x c,(gg env xs).lookup x=some c->env.cells.lookup x=some c
 | [],_,x,c,h=>by cases h
 |y::xs,ha,x,c,h=>by
  rw[List.all_cons,G8]at ha;have h':List.lookup x ((y,(env.cells.lookup y).getD 0)::gg env xs)=some c:=h;rw[List.lookup_cons]at h';cases e:x==y with
  |true=>
   rw[e]at h';have exy:x=y:=eq_of_beq e;subst exy;have hc:(env.cells.lookup x).getD 0=c:=GB h';cases q:env.cells.lookup x with
   |none=>rw[q]at ha;cases ha.1
   |some z=>rw[q]at hc;rw[<-hc];rfl
  |false=>rw[e]at h';exact aW ha.2 x c h'
theorem cR{names:List (Str×NameKind)}{xs:List Str}{env:Env}(h:CU names xs=true):∀x,(names.lookup x=some .cell\/names.lookup x=some .free)->∃c,(gg env xs).lookup x=some c:=fun x hx=>by
 refine nV ?_;unfold CU at h;rw[List.all_eq_true]at h;rcases hx with hx|hx
 ·have:=h _ (Hx hx);simpa using this
 ·have:=h _ (Hx hx);simpa using this
theorem b6{n m i:Nat}(hi:i<n):∀x σ H R,σ.length=n+m->(∀(k:Nat),k<n->σ[k]?=some none)->kF i x σ H R->kF i x σ H fun σ2 H2=>Wk σ σ2/\R σ2 H2:=fun x σ H R _ h0 h=>
 ⟨⟨by simp,fun k v e=>by
  by_cases hk:k=i
  ·subst hk;rw[h0 _ hi]at e;cases e
  ·rw[HM (Hg hk)];exact e⟩,h⟩
theorem wW{n:Nat}{g:TG}{tt:TT}{te:TE}{σ0:St}{lo:Int}{Q:VK}{D:Addr}{H:Hp}(Pv:Nat->List V->Hp->Prop)(h0:Pv 0 [] H)
  (hs:∀i acc H2,i<n->Pv i acc H2->g (.int (lo+i)) σ0 H2 fun σ2 H4=>tt σ2 H4 fun b H5=>if b=true then te σ2 H5 fun y H6=>H6 D=some (.lst acc)/\acc.length<sizeLine/\Pv (i+1) (acc++[y]) (upd H6 D (.lst (acc++[y])))else Pv (i+1) acc H5)
  (hd:∀acc H2,Pv n acc H2->Q (.ref D) H2):
  ∃W:Nat->Nat->List V->Hp->Prop,(∃m,W 0 m [] H)/\∀i m acc H2,W i m acc H2->
   ((Itr lo n).stop i H2/\Q (.ref D) H2)\/((Itr lo n).go i H2/\∃N:List V->Hp->Prop,(∀acc' H',N acc' H'->∃m',m'<m/\W (i+1) m' acc' H')/\∀x H3,(Itr lo n).yld i H2 x H3->g x σ0 H3 fun σ2 H4=>tt σ2 H4 fun b H5=>if b=true then te σ2 H5 fun y H6=>H6 D=some (.lst acc)/\acc.length<sizeLine/\N (acc++[y]) (upd H6 D (.lst (acc++[y])))else N acc H5):=by
 refine⟨fun i m acc H=>m=n-i/\i<=n/\Pv i acc H,⟨n,by simp,GO _,h0⟩,?_⟩;rintro i m acc H2 ⟨rfl,hi,p⟩;by_cases hlt:i<n
 ·refine .inr ⟨hlt,Pv (i+1),fun acc' H' p'=>⟨n-(i+1),by omega,rfl,hlt,p'⟩,fun x H3 y=>?_⟩;obtain⟨e,y⟩:=y;subst e y;exact hs i acc _ hlt p
 ·have e:i=n:=by omega
  subst e;exact .inl ⟨F4 _,hd acc H2 p⟩
theorem yO{K:Frag}{a:Addr}{xs:List V}{g:TG}{tt:TT}{te:TE}{σ0:St}{Q:VK}{D:Addr}{H:Hp}(Pv:Nat->List V->Hp->Prop)(h0:Pv 0 [] H)(hl:∀i acc H,i<=xs.length->Pv i acc H->SqL K H a xs)
  (hs:∀i x acc H2,xs[i]?=some x->Pv i acc H2->g x σ0 H2 fun σ2 H4=>tt σ2 H4 fun b H5=>if b=true then te σ2 H5 fun y H6=>H6 D=some (.lst acc)/\acc.length<sizeLine/\Pv (i+1) (acc++[y]) (upd H6 D (.lst (acc++[y])))else Pv (i+1) acc H5)
  (hd:∀acc H2,Pv xs.length acc H2->Q (.ref D) H2):
  ∃W:Nat->Nat->List V->Hp->Prop,(∃m,W 0 m [] H)/\∀i m acc H2,W i m acc H2->
   ((Itl K a).stop i H2/\Q (.ref D) H2)\/((Itl K a).go i H2/\∃N:List V->Hp->Prop,(∀acc' H',N acc' H'->∃m',m'<m/\W (i+1) m' acc' H')/\∀x H3,(Itl K a).yld i H2 x H3->g x σ0 H3 fun σ2 H4=>tt σ2 H4 fun b H5=>if b=true then te σ2 H5 fun y H6=>H6 D=some (.lst acc)/\acc.length<sizeLine/\N (acc++[y]) (upd H6 D (.lst (acc++[y])))else N acc H5):=by
 refine⟨fun i m acc H=>m=xs.length-i/\i<=xs.length/\Pv i acc H,⟨xs.length,by simp,GO _,h0⟩,?_⟩;rintro i m acc H2 ⟨rfl,hi,p⟩;have q:=hl i acc H2 hi p;by_cases hlt:i<xs.length
 ·refine .inr ⟨⟨xs,xs[i],q,by simp[hlt]⟩,Pv (i+1),fun acc' H' p'=>⟨xs.length-(i+1),by omega,rfl,hlt,p'⟩,fun x H3 y=>?_⟩;obtain⟨e,y⟩:=y;subst e;exact hs i x acc _ (y xs q) p
 ·have e:i=xs.length:=by omega
  subst e;exact .inl ⟨⟨xs,q,F4 _⟩,hd acc H2 p⟩
end
mutual
inductive IsD(K:Frag)(H:Hp):PyData->V->Prop
 |non:IsD K H .none .non
 |bl (b:Bool):IsD K H (.bool b) (.bl b)
 |int (i:Int):IsD K H (.int i) (.int i)
 |str (x:Str):IsD K H (.str x) (.str x)
 |tup {a:Addr} {vs:List V} {ds:List PyData}:SqT K H a vs->eA K H ds vs->IsD K H (.tuple ds) (.ref a)
 |lst {a:Addr} {vs:List V} {ds:List PyData}:SqL K H a vs->eA K H ds vs->IsD K H (.list ds) (.ref a)
inductive eA(K:Frag)(H:Hp):List PyData->List V->Prop
 |nil:eA K H [] []
 |cons {d:PyData} {v:V} {ds:List PyData} {vs:List V}:IsD K H d v->eA K H ds vs->eA K H (d::ds) (v::vs)
end
section
variable{X:Cx}{pins:List (Addr×Obj)}{σ:St}{H:Hp}{s:Shared}
mutual
theorem IsD.reads(I:Inv X pins σ H s):∀{d:PyData}{v:V}{u:Value},IsD X.K H d v->RelV v u->∃as,Reads s.heap u d as
 |_,_,_,.non,r=>by cases r;exact⟨_,.none⟩
 |_,_,_,.bl b,r=>by cases r;exact⟨_,.bool b⟩
 |_,_,_,.int i,r=>by obtain⟨t,rfl⟩:=r;exact⟨_,.int i t⟩
 |_,_,_,.str x,r=>by obtain⟨t,rfl⟩:=r;exact⟨_,.str x t⟩
 |_,_,_,.tup h1 h2,r=>by cases r;obtain⟨its,rv,⟨o,e,c,n,d⟩,hz⟩:=I.tuple h1;obtain⟨as,ra⟩:=eA.reads I h2 rv;exact⟨_,.tuple e c d (by simpa using ra)⟩
 |_,_,_,.lst h1 h2,r=>by cases r;obtain⟨its,rv,pl,hz⟩:=I.list h1;obtain⟨o,e,c,n,d⟩:=pl.isList;obtain⟨as,ra⟩:=eA.reads I h2 rv;exact⟨_,.list e c d (by simpa using ra)⟩
theorem eA.reads(I:Inv X pins σ H s):∀{ds:List PyData}{vs:List V}{us:List Value},eA X.K H ds vs->Vals vs us->∃as,ReadsAll s.heap us ds as
 |_,_,_,.nil,.nil=>⟨_,.nil⟩
 |_,_,_,.cons h t,.cons r rs=>by obtain⟨as,ra⟩:=IsD.reads I h r;obtain⟨bs,rb⟩:=eA.reads I t rs;exact⟨_,.cons ra rb⟩
end
noncomputable def FH(K:Frag):R2:=fun x y H Q=>∃d1 d2,IsD K H d1 x/\IsD K H d2 y/\d1.canLay0=true/\d2.canLay0=true/\d2.depth<=50/\Q (.bl (PyData.eqv d1 d2)) H
noncomputable def EI(K:Frag):R2:=fun x y H Q=>∃d1 d2,IsD K H d1 x/\IsD K H d2 y/\d1.canLay0=true/\d2.canLay0=true/\d2.depth<=50/\Q (.bl (!PyData.eqv d1 d2)) H
theorem DA(hu:X.A.units+64<cLine):OpR X (compareOp .Eq) (FH X.K):=by intro pins s σ H x y v u Q I rx ry h;obtain⟨d1,d2,h1,h2,c1,c2,hd,q⟩:=h;obtain⟨as,ra⟩:=IsD.reads I h1 rx;obtain⟨bs,rb⟩:=IsD.reads I h2 ry;exact SeqAt.rcAt_reads ra rb c1 c2 (by omega) _ _ _ _ (show EP X pins σ Q _ s from⟨.bl _,H,I,rfl,q⟩)
theorem wt(hu:X.A.units+64<cLine):OpR X (compareOp .NotEq) (EI X.K):=by intro pins s σ H x y v u Q I rx ry h;obtain⟨d1,d2,h1,h2,c1,c2,hd,q⟩:=h;obtain⟨as,ra⟩:=IsD.reads I h1 rx;obtain⟨bs,rb⟩:=IsD.reads I h2 ry;exact SeqAt.rcNeAt_reads ra rb c1 c2 (by omega) _ _ _ _ (show EP X pins σ Q _ s from⟨.bl _,H,I,rfl,q⟩)
theorem pP:OpR X (binaryOp .FloorDiv) (rI (fun _ j=>0<j/\j.natAbs.log2<9000) fun i j=>.int (i / j)):=opI fun i j _ _ _ _ _ hc q=>by have h1:(0:Int)<j:=hc.1;exact floordiv_int (by omega) (by rw[Int.fdiv_eq_ediv_of_nonneg i (by omega)];exact q) (.inl (PyProof.noPylong_of_log2 hc.2))
def EL(K:Frag):List V->Hp->VK->Prop:=fun xs H Q=>∃x n t b,xs=[x,.ty n]/\gX K H x t/\kitOne K t (.type n)=some b/\Q (.bl b) H
theorem qw:dU X (.builtin "isinstance") (EL X.K):=by
 intro pins s σ H xs us Q I rs h;obtain⟨x,n,t,b,rfl,ty,e,q⟩:=h;cases rs with
 |cons r rr=>
  cases rr with
  |cons r2 rr=>cases rr;cases r2;exact yA I r ty e fun tk=>⟨.bl b,H,I.tok _,rfl,q⟩
structure Df(P:Program)(w:World)(K:Frag)(mg:Str->Option Value)(base:Heap)(k:Nat)(x:Str)(ps:List Str)(sp:Sp):Prop where
 ex:∃f fd,ji P w K mg base CX0 k f fd ps sp/\Binds K fd ps []/\mg x=some (.ref f)/\keepIn K (.ref f)=true
structure Tx(K:Frag)(mg:Str->Option Value)(x:Str)(st:Stmt)(ps:List Str):Prop where
 ex:∃f fd,Fun K x x st f fd/\Binds K fd ps []/\mg x=some (.ref f)
theorem Tx.df{P:Program}{w:World}{K:Frag}{mg:Str->Option Value}{base:Heap}{x:Str}{st:Stmt}{N ps:List Str}{k:Nat}{sp:Sp}(T:Tx K mg x st ps)(S:aD N ps (aq st))
  (len:∀vs H Q E,sp vs H Q E->vs.length=ps.length)
  (hbody:∀(f:Addr)(cdv:Value)(A:Around)(outer:List Env)(s:Shared)(H:Hp)(vs:List V)(Q:VK)(E:XK),cb k (A.deeper (envOfC x (aq st) s.heap.objs.size f cdv))->sp vs H Q E->
   ∃t,PSs (cT CX0 P w K mg base N x (aq st) f cdv A outer s H E).nox (bB st) t/\t {nx:=fun _ H'=>Q .non H',rt:=Q} (start N vs) H):Df P w K mg base (k+1) x ps sp:=by
 obtain⟨f,fd,F,b,hm⟩:=T.ex;exact⟨f,fd,F.ok S len fun cdv A outer s H vs Q E hr h=>hbody f cdv A outer s H vs Q E hr h,b,hm,F.kp⟩
def tCF(sp:Sp)(t:TA):TE:=fun σ H Q=>t σ H fun vs H1=>sp vs H1 Q E0
theorem aE{j k:Nat}{x:Str}{ps:List Str}{sp:Sp}{p pos:Pos}{e:Expr}{es:List Expr}{t:TA}(D:Df X.prog X.w X.K X.mg X.base j x ps sp)(hr:cb k X.A)(ha:PA X (e::es) t)(hg:Gl X x:=by rfl)(hj:j<=k:=by decide)
  (hdb:(x==("__debug__":Str))=false:=by decide) (he:starEach (e::es) X.env=(false,eval e X.env)::starEach es X.env:=by rfl) (hpl:(backTo pos (starEach es X.env)).any (·.1)=false:=by rfl):
  PE X (.Call (.Name x p) (e::es) [] pos) (tCF sp t):=by
 obtain⟨f,fd,F,b,hm,kp⟩:=D.ex;have h:=tJ (ds:=[]) (dvs:=[]) (E:=E0) (p:=p) (pos:=pos) F (hr.mono hj) hg hm kp b .nil nQ ha hdb he hpl;have e1:kg sp [] E0 t=tCF sp t:=by funext σ H Q;unfold kg tCF;simp only[GF]
 rw[e1]at h;exact h
structure Bn(mg:Str->Option Value):Prop where
 len:mg "len"=none
 range:mg "range"=none
 isinstance:mg "isinstance"=none
 int:mg "int"=none
 bool:mg "bool"=none
 list:mg "list"=none
 tuple:mg "tuple"=none
 str:mg "str"=none
 dict:mg "dict"=none
 sorted:mg "sorted"=none
 enumerate:mg "enumerate"=none
 min:mg "min"=none
 max:mg "max"=none
 set:mg "set"=none
theorem aw.upd{H:Hp}{a:Addr}{o:HO}(h:H a=none):aw H (upd H a o):=fun b u e=>by rw[az (dQ e h)];exact e
theorem aw.tup{K:Frag}{H H':Hp}{a:Addr}{xs:List V}(e:aw H H')(h:SqT K H a xs):SqT K H' a xs:=by
 rcases h with(h|⟨o,h⟩)|h
 ·exact .inl (.inl (e _ _ h))
 ·exact .inl (.inr ⟨o,e _ _ h⟩)
 ·exact .inr h
end
theorem Ej{K:Frag}{h:Heap}{mg:Str->Option Value}{x:Str}{st:Stmt}{ps:List Str}{f:Addr}{oc:Value}{od an:Option Addr}{osl:Array (Option Value)}{kV doc pm cdv ct:Value}(X:K.In h)(G:h.Ns mainGlobals mg)
  (a:nsIn K mainGlobals x=some (some (.ref f)))
  (l:K.lookup f=some ⟨oc,od,.func (fnOf x x (cD st) (bB st) (aq st) .none kV doc pm an cdv ct),osl⟩)
  (c:codeIn K cdv x=true) (k:keepIn K (.ref f)=true)
  (hb:∀(kV doc pm:Value)(an:Option Addr)(cdv ct:Value)(us:List Value),us.length=ps.length->bindArgs (fnOf x x (cD st) (bB st) (aq st) .none kV doc pm an cdv ct) ⟨us,[]⟩=pure (ps.zip us)):Tx K mg x st ps:=
 ⟨f,_,qk l c k,(qk l c k).binds hb,HD X G a⟩
theorem Fc{K:Frag}{h:Heap}{mg:Str->Option Value}(X:K.In h)(G:h.Ns mainGlobals mg)
  (z0:nsIn K mainGlobals "len"=some none) (z1:nsIn K mainGlobals "range"=some none) (z2:nsIn K mainGlobals "isinstance"=some none)
  (z3:nsIn K mainGlobals "int"=some none) (z4:nsIn K mainGlobals "bool"=some none) (z5:nsIn K mainGlobals "list"=some none) (z6:nsIn K mainGlobals "tuple"=some none)
  (z7:nsIn K mainGlobals "str"=some none) (z8:nsIn K mainGlobals "dict"=some none) (z9:nsIn K mainGlobals "sorted"=some none) (z10:nsIn K mainGlobals "enumerate"=some none)
  (z11:nsIn K mainGlobals "min"=some none) (z12:nsIn K mainGlobals "max"=some none) (z13:nsIn K mainGlobals "set"=some none):Bn mg:=
 ⟨GU X G z0,GU X G z1,GU X G z2,GU X G z3,GU X G z4,GU X G z5,GU X G z6,GU X G z7,GU X G z8,GU X G z9,GU X G z10,GU X G z11,GU X G z12,GU X G z13⟩
def Eo(t u:TS):TS:=fun D σ H=>∃R:St->Hp->Prop,t {D with nx:=R} σ H/\∀σ' H',R σ' H'->u D σ' H'
theorem aZ{X:Cx}{st:Stmt}{rest:List Stmt}{t u:TS}(h1:PS X st t)(h2:PSs X rest u):PSs X (st::rest) (Eo t u):=by
 intro pins s σ H D I h;obtain⟨R,h,hR⟩:=h;refine wpAny_execs_cons (thn (h1 pins s σ H {D with nx:=R} I h) fun f s1 q=>?_);cases f with
 |next=>obtain⟨σ',H',I',q⟩:=q;exact h2 pins s1 σ' H' D I' (hR σ' H' q)
 |ret v=>exact q
 |brk=>exact q
 |cont=>exact q
theorem aP{n:Nat}(h:Nat.ble n 1000=true):n<=sizeLine:=GA (Gq h) (by decide)
end L2
namespace LM
noncomputable def ei(w h k:Nat):List Nat:=
 (if 0<k / w then[k-w]else[])++((if 0<k % w then[k-1]else[])++((if k % w+1<w then[k+1]else[])++(if k / w+1<h then[k+w]else[])))
theorem m7{w h k j:Nat}:j∈ei w h k<->(0<k / w/\j=k-w)\/(0<k % w/\j=k-1)\/(k % w+1<w/\j=k+1)\/(k / w+1<h/\j=k+w):=by unfold ei;by_cases h1:0<k / w<;>by_cases h2:0<k % w<;>by_cases h3:k % w+1<w<;>by_cases h4:k / w+1<h<;>simp[h1,h2,h3,h4]
theorem BS{w h k j:Nat}(hw:0<w)(hk:k<w*h)(hj:j∈ei w h k):j<w*h:=by
 have e:w*(k / w)+k % w=k:=Nat.div_add_mod k w;have r:k % w<w:=Nat.mod_lt k hw;have q:k / w<h:=(Nat.div_lt_iff_lt_mul hw).mpr (by rw[Nat.mul_comm];exact hk);rcases m7.mp hj with⟨_,rfl⟩|⟨_,rfl⟩|⟨h3,rfl⟩|⟨h4,rfl⟩
 ·omega
 ·omega
 ·have:w*(k / w+1)<=w*h:=Nat.mul_le_mul_left w q;rw[Nat.mul_add]at this;omega
 ·have:w*(k / w+1+1)<=w*h:=Nat.mul_le_mul_left w h4;rw[Nat.mul_add,Nat.mul_add]at this;omega
theorem Ag(w h k:Nat):(ei w h k).length<=4:=by unfold ei;by_cases h1:0<k / w<;>by_cases h2:0<k % w<;>by_cases h3:k % w+1<w<;>by_cases h4:k / w+1<h<;>simp[h1,h2,h3,h4]
noncomputable def gR(a:Nat)(js:List Nat):Nat:=js.foldl (fun a j=>a||| 2^j) a
theorem length_le_of_subset{α:Type}[DecidableEq α]:∀{l1 l2:List α},l1.Nodup->(∀x∈l1,x∈l2)->l1.length<=l2.length
 | [],_,_,_=>GO _
 |x::l1,l2,nd,h=>by
  obtain⟨nx,nd⟩:=Hh.mp nd;have hx:x∈l2:=h x F7;have ih:=length_le_of_subset (l1:=l1) (l2:=l2.erase x) nd fun y hy=>by have hne:y≠x:=fun e=>nx (e▸hy);exact(List.mem_erase_of_ne hne).mpr (h y (F1 _ hy))
  rw[List.length_erase_of_mem hx]at ih;have:=List.length_pos_of_mem hx;rw[Gs];omega
theorem se{w h k j:Nat}(hw:0<w)(hk:k<w*h)(hj:j∈ei w h k):k∈ei w h j:=by
 have e:w*(k / w)+k % w=k:=Nat.div_add_mod k w;have r:k % w<w:=Nat.mod_lt k hw;have q:k / w<h:=(Nat.div_lt_iff_lt_mul hw).mpr (by rw[Nat.mul_comm];exact hk);rw[m7];rcases m7.mp hj with⟨h1,rfl⟩|⟨h2,rfl⟩|⟨h3,rfl⟩|⟨h4,rfl⟩
 ·have hwk:w<=k:=by
   have:=Nat.mul_le_mul_left w h1;omega
  have ed:(k-w) / w=k / w-1:=by
   have:k=(k-w)+w:=(by omega);have e2:k / w=(k-w) / w+1:=by
    conv=>lhs;rw[this]
    exact Nat.add_div_right _ hw
   omega
  refine .inr (.inr (.inr ⟨by rw[ed];omega,by omega⟩))
 ·have e3:(k-1) % w=k % w-1:=by
   have:k-1=w*(k / w)+(k % w-1):=(by omega);rw[this,Nat.mul_add_mod];exact Nat.mod_eq_of_lt (by omega)
  refine .inr (.inr (.inl ⟨by rw[e3];omega,by omega⟩))
 ·have e3:(k+1) % w=k % w+1:=by
   have:k+1=w*(k / w)+(k % w+1):=(by omega);rw[this,Nat.mul_add_mod];exact Nat.mod_eq_of_lt (by omega)
  refine .inr (.inl ⟨by rw[e3];omega,by omega⟩)
 ·have ed:(k+w) / w=k / w+1:=Nat.add_div_right k hw;exact .inl ⟨by rw[ed];exact Nat.succ_pos _,by omega⟩
noncomputable def Ai(w h k:Int):List Int:=
 (if decide (0<k / w)=true then[k-w]else[])++((if decide (0<k % w)=true then[k-1]else[])++((if decide (k % w<w-1)=true then[k+1]else[])++(if decide (k / w<h-1)=true then[k+w]else[])))
theorem Ah(w h k:Nat):Ai w h k=(ei w h k).map fun j:Nat=>(j:Int):=by
 unfold Ai ei;have e1:((k:Int) / (w:Int))=((k / w:Nat):Int):=(Int.natCast_ediv k w).symm;have e2:((k:Int) % (w:Int))=((k % w:Nat):Int):=(Int.natCast_emod k w).symm;have q1:0<k / w->w<=k:=fun h=>by
  rcases Nat.lt_or_ge k w with q|q
  ·rw[Nat.div_eq_of_lt q]at h;omega
  ·exact q
 have q2:0<k % w->1<=k:=fun h=>by
  rcases Nat.eq_zero_or_pos k with q|q
  ·subst q;simp at h
  ·exact q
 rw[e1,e2];have b1:(if decide ((0:Int)<((k / w:Nat):Int))=true then[(k:Int)-w]else[])=(if 0<k / w then[k-w]else[]).map fun j:Nat=>(j:Int):=by
  by_cases h:0<k / w
  ·have:=q1 h;rw[F8 (by rw[GR];omega),F8 h,HG];congr 1;omega
  ·rw[F6 (by rw[GR];omega),F6 h];rfl
 have b2:(if decide ((0:Int)<((k % w:Nat):Int))=true then[(k:Int)-1]else[])=(if 0<k % w then[k-1]else[]).map fun j:Nat=>(j:Int):=by
  by_cases h:0<k % w
  ·have:=q2 h;rw[F8 (by rw[GR];omega),F8 h,HG];congr 1;omega
  ·rw[F6 (by rw[GR];omega),F6 h];rfl
 have b3:(if decide (((k % w:Nat):Int)<(w:Int)-1)=true then[(k:Int)+1]else[])=(if k % w+1<w then[k+1]else[]).map fun j:Nat=>(j:Int):=by
  by_cases h:k % w+1<w
  ·rw[F8 (by rw[GR];omega),F8 h,HG];congr 1
  ·rw[F6 (by rw[GR];omega),F6 h];rfl
 have b4:(if decide (((k / w:Nat):Int)<(h:Int)-1)=true then[(k:Int)+w]else[])=(if k / w+1<h then[k+w]else[]).map fun j:Nat=>(j:Int):=by
  by_cases hh:k / w+1<h
  ·rw[F8 (by rw[GR];omega),F8 hh,HG];congr 1
  ·rw[F6 (by rw[GR];omega),F6 hh];rfl
 rw[b1,b2,b3,b4];simp only[Gk]
end LM
namespace My
open PySem L2 LM PyProof.Rows
theorem qy(a b:Nat):Builtin.bitAnd (a:Int) (b:Int)=((a&&& b:Nat):Int):=by rw[bitAnd_pp (by omega) (by omega)];simp only[Hb]
theorem DU(c:Nat)(k:Int)(h:0<=k):decide (V.int (Builtin.bitAnd ((c:Int) / 2^k.toNat) 1)=V.int 1)=(decide (0<=k)&&c.testBit k.toNat):=by
 have e:(c:Int) / 2^k.toNat=((c / 2^k.toNat:Nat):Int):=by rw[Int.natCast_ediv,Int.natCast_pow];rfl
 have e2:Builtin.bitAnd ((c:Int) / 2^k.toNat) 1=((c / 2^k.toNat % 2:Nat):Int):=by rw[e];exact(qy _ 1).trans (by rw[Nat.and_one_is_mod])
 rw[e2,Nat.testBit_eq_decide_div_mod_eq,Gp h,Bool.true_and,Hz,GR,GR];constructor
 ·intro z;have:=V.int.inj z;omega
 ·intro z;rw[z];rfl
theorem AB{l:List Nat}{i:Nat}{y:V}(h:((l.map fun k:Nat=>(k:Int)).map V.int)[i]?=some y):∃k,l[i]?=some k/\y=V.int (k:Int):=by
 rw[Gn,Gn]at h;cases e:l[i]? with
 |none=>rw[e]at h;cases h
 |some k=>rw[e]at h;exact⟨k,rfl,(GB h).symm⟩
theorem jA(j:Nat):(1:Int)*2^((j:Int)).toNat=((2^j:Nat):Int):=by rw[Int.one_mul,Hb,Int.natCast_pow];rfl
theorem yU(a b:Nat):Builtin.bitOr (a:Int) (b:Int)=((a|||b:Nat):Int):=by have h:=nat_or_add_and a b;rw[bitOr_and,bitAnd_pp (by omega) (by omega)];simp only[Hb];omega
theorem uT(j:Int):(0:Int)<1*2^j.toNat:=by rw[Int.one_mul];exact Int.pow_pos (by decide)
theorem BC(k:Nat)(h:k<=64):((1:Int)*2^((k:Int)).toNat).natAbs.log2<9000:=by rw[jA,Int.natAbs_natCast,Nat.log2_two_pow];omega
theorem BY(c k:Nat):decide (V.int ((c:Int) / (1*2^((k:Int)).toNat) % 2)=V.int 1)=c.testBit k:=by
 have e:(c:Int) / (1*2^((k:Int)).toNat) % 2=((c / 2^k % 2:Nat):Int):=by rw[jA,Int.natCast_emod,Int.natCast_ediv];rfl
 rw[e,Nat.testBit_eq_decide_div_mod_eq,Hz,GR,GR];constructor
 ·intro z;have:=V.int.inj z;omega
 ·intro z;rw[z];rfl
theorem EW(c:Int): -(2^64)<c % (2^(64:Int).toNat)/\c % (2^(64:Int).toNat)<2^64:=by
 have e:((2:Int)^(64:Int).toNat)=18446744073709551616:=by decide
 rw[e];omega
theorem BV(v:Int)(n:Nat):∃z:Nat,v % (1*2^((n:Int)).toNat)=(z:Int)/\z<2^n:=by
 have h0:(0:Int)<((2^n:Nat):Int):=by have:=Nat.two_pow_pos n;omega
 refine⟨(v % ((2^n:Nat):Int)).toNat,?_,?_⟩
 ·rw[jA,Int.toNat_of_nonneg (GP _ (by omega))]
 ·have h1:=GV v h0;have h2:=GP v (show((2^n:Nat):Int)≠0 by omega);omega
noncomputable def isI:V->Bool
 | .int _=>true
 |_=>false
noncomputable def isB:V->Bool
 | .bl _=>true
 |_=>false
theorem BZ(K:Frag){H:Hp}{x:V}{n:String}(ty:gX K H x (.type n)):kitOne K (.type n) (.type "int")=some (isI x||isB x):=by cases ty<;>kernel_rfl
theorem Ap(K:Frag){H:Hp}{x:V}{n:String}(ty:gX K H x (.type n)):kitOne K (.type n) (.type "bool")=some (isB x):=by cases ty<;>kernel_rfl
theorem CY(z:Int):∃w:Nat,1+z % 8=(w:Int)/\0<w/\w<=8:=⟨(1+z % 8).toNat,by omega,by omega,by omega⟩
def SX(l:Addr)(H H':Hp):Prop:=∀b o,b≠l->H b=some o->H' b=some o
theorem SX.refl(l:Addr)(H:Hp):SX l H H:=fun _ _ _ e=>e
theorem SX.trans{l:Addr}{H H1 H2:Hp}(a:SX l H H1)(b:SX l H1 H2):SX l H H2:=fun c o n e=>b c o n (a c o n e)
theorem SX.of{l:Addr}{H H':Hp}(a:aw H H'):SX l H H':=fun c o _ e=>a c o e
theorem SX.set{l:Addr}{H:Hp}{o:HO}:SX l H (upd H l o):=fun c u n e=>by rw[az n];exact e
theorem SX.same{l:Addr}{H H1 H2:Hp}(h:H l=none)(a:aw H H1)(b:SX l H1 H2):aw H H2:=fun c o e=>b c o (dQ e h) (a c o e)
theorem aw.set{l:Addr}{H H':Hp}{o:HO}(h:H l=none)(a:aw H H'):aw H (upd H' l o):=fun c u e=>by rw[az (dQ e h)];exact a c u e
end My
namespace LM
open PyProof.Rows
theorem j8{a b:Nat}(h:∀j,a.testBit j=b.testBit j):a=b:=Nat.eq_of_testBit_eq h
theorem Cz{a b:Nat}(h:∀j,a.testBit j=true<->b.testBit j=true):a=b:=Nat.eq_of_testBit_eq fun j=>by have:=h j;cases e1:a.testBit j<;>cases e2:b.testBit j<;>simp_all
theorem kY{a n:Nat}(h:∀j,a.testBit j=true->j<n):a<2^n:=Nat.lt_pow_two_of_testBit a fun j hj=>by
 cases e:a.testBit j with
 |false=>rfl
 |true=>have:=h j e;omega
theorem gh{c n k:Nat}(hc:c<2^n)(h:c.testBit k=true):k<n:=by
 rcases Nat.lt_or_ge k n with q|q
 ·exact q
 ·rw[Nat.testBit_lt_two_pow (F5 hc (GY (by decide) q))]at h;cases h
theorem Cn(a b:Nat):(a&&& b)+(a^^^(a&&& b))=a:=by
 have h:=PyProof.Rows.nat_or_add_and (a&&& b) (a^^^(a&&& b));have e1:(a&&& b)|||(a^^^(a&&& b))=a:=j8 fun j=>by simp only[Nat.testBit_or,Nat.testBit_xor,Hu];cases a.testBit j<;>cases b.testBit j<;>rfl
 have e2:(a&&& b)&&& (a^^^(a&&& b))=0:=j8 fun j=>by simp only[Hu,Nat.testBit_xor,Nat.zero_testBit];cases a.testBit j<;>cases b.testBit j<;>rfl
 rw[e1,e2]at h;omega
noncomputable def dif(a b:Nat):Nat:=a-(a&&& b)
theorem hZ(a b j:Nat):(dif a b).testBit j=(a.testBit j&& !b.testBit j):=by
 have e:dif a b=a^^^(a&&& b):=by have:=Cn a b;unfold dif;omega
 rw[e];simp only[Nat.testBit_xor,Hu];cases a.testBit j<;>cases b.testBit j<;>rfl
theorem qm{a b n:Nat}(h:a<2^n):dif a b<2^n:=by unfold dif;omega
theorem Dy{a b:Nat}(h:a&&& b=0):a|||b=a+b:=by have:=PyProof.Rows.nat_or_add_and a b;omega
theorem xt(k j:Nat):(2^k).testBit j=decide (k=j):=Nat.testBit_two_pow
theorem rX{j:Nat}:∀{js:List Nat}{a:Nat},(gR a js).testBit j=true<->a.testBit j=true\/j∈js
 | [],a=>by simp[gR]
 |x::js,a=>by
  have e:gR a (x::js)=gR (a||| 2^x) js:=rfl;rw[e,rX (js:=js)];simp only[Nat.testBit_or,Bool.or_eq_true,xt,GR,Gg];constructor
  ·rintro((h|h)|h)
   ·exact .inl h
   ·exact .inr (.inl h.symm)
   ·exact .inr (.inr h)
  ·rintro(h|h|h)
   ·exact .inl (.inl h)
   ·exact .inl (.inr h.symm)
   ·exact .inr h
inductive Rch(w h c k:Nat):Nat->Prop where
 |here:c.testBit k=true->Rch w h c k k
 |step {j i:Nat}:Rch w h c k j->i∈ei w h j->c.testBit i=true->Rch w h c k i
theorem Rch.in{w h c k j:Nat}(r:Rch w h c k j):c.testBit j=true:=by
 cases r with
 |here e=>exact e
 |step _ _ e=>exact e
theorem Rch.trans{w h c k j i:Nat}(a:Rch w h c k j)(b:Rch w h c j i):Rch w h c k i:=by
 induction b with
 |here _=>exact a
 |step _ n e ih=>exact .step ih n e
theorem Rch.symm{w h c k j:Nat}(hw:0<w)(hc:c<2^(w*h))(r:Rch w h c k j):Rch w h c j k:=by
 induction r with
 |here e=>exact .here e
 |step r n e ih=>exact(Rch.step (.here e) (se hw (gh hc r.in) n) r.in).trans ih
def cU(w h c k p:Nat):Prop:=∀j,p.testBit j=true<->Rch w h c k j
theorem cU.sub{w h c k p j:Nat}(a:cU w h c k p)(hj:p.testBit j=true):c.testBit j=true:=((a j).mp hj).in
theorem cU.at{w h c k p j:Nat}(hw:0<w)(hc:c<2^(w*h))(a:cU w h c k p)(hj:p.testBit j=true):cU w h c j p:=fun i=>by
 have r:=(a j).mp hj;constructor
 ·intro hi;exact(r.symm hw hc).trans ((a i).mp hi)
 ·intro ri;exact(a i).mpr (r.trans ri)
noncomputable def dS(c:Nat):Nat:=((List.range 64).find? c.testBit).getD 64
theorem jU{c L:Nat}(hL:L<64)(h1:c.testBit L=true)(h2:∀j,j<L->c.testBit j=false):dS c=L:=by
 unfold dS;have e:(List.range 64).find? c.testBit=some L:=by
  rw[List.find?_eq_some_iff_append];refine⟨h1,List.range L,(List.range (64-L-1)).map (fun x=>L+1+x),?_,fun j hj=>by simpa using h2 j (GN.mp hj)⟩;have:64=L+(1+(64-L-1)):=by omega
  conv=>lhs;rw[this]
  rw[List.range_add,List.range_add];simp[Nat.add_assoc]
 rw[e];rfl
theorem BW:∀(c:Nat),c≠0->∃L,c-(c&&& (c-1))=2^L/\c.testBit L=true/\∀j,j<L->c.testBit j=false:=by
 intro c
 induction c using Nat.strongRecOn with
 |_ c ih=>
  intro h0;rcases Nat.mod_two_eq_zero_or_one c with e|e
  ·obtain⟨L,h1,h2,h3⟩:=ih (c / 2) (by omega) (by omega);refine⟨L+1,?_,?_,?_⟩
   ·have ha:c&&& (c-1)=2*((c / 2)&&& (c / 2-1)):=by
     refine j8 fun j=>?_;cases j with
     |zero=>rw[Hu,Nat.testBit_zero,e,Nat.testBit_zero];simp
     |succ j=>rw[Hu,Nat.testBit_succ,Nat.testBit_succ,Nat.testBit_succ,Nat.mul_div_cancel_left _ (by decide),Hu];congr 2;omega
    rw[ha,Nat.pow_succ,<-h1];omega
   ·rw[Nat.testBit_succ];exact h2
   ·intro j hj;cases j with
    |zero=>rw[Nat.testBit_zero,e];rfl
    |succ j=>rw[Nat.testBit_succ];exact h3 j (by omega)
  ·refine⟨0,?_,by rw[Nat.testBit_zero,e];rfl,fun j hj=>by omega⟩;have ha:c&&& (c-1)=c-1:=by
    refine j8 fun j=>?_;cases j with
    |zero=>rw[Hu,Nat.testBit_zero,e,Nat.testBit_zero];simp
    |succ j=>rw[Hu,Nat.testBit_succ,Nat.testBit_succ];have:(c-1) / 2=c / 2:=(by omega);rw[this,Bool.and_self]
   rw[ha];omega
theorem eI{c:Nat}(hc:c<2^64)(h0:c≠0):c.testBit (dS c)=true/\(∀j,j<dS c->c.testBit j=false)/\c-(c&&& (c-1))=2^dS c:=by obtain⟨L,h1,h2,h3⟩:=BW c h0;have e:=jU (gh hc h2) h2 h3;rw[e];exact⟨h2,h3,h1⟩
theorem iY{c n:Nat}(hc:c<2^n)(hn:n<=64)(h0:c≠0):dS c<n:=gh hc (eI (F5 hc (GY (by decide) hn)) h0).1
inductive iN(w h:Nat):Nat->List Nat->Prop where
 |nil:iN w h 0 []
 |cons {r p:Nat} {ps:List Nat}:r≠0->cU w h r (dS r) p->iN w h (dif r p) ps->iN w h r (p::ps)
def g5(w h c r:Nat):Prop:=∀j i,r.testBit j=true->i∈ei w h j->c.testBit i=true->r.testBit i=true
def Sub(r c:Nat):Prop:=∀j,r.testBit j=true->c.testBit j=true
theorem cU.of_closed{w h c r k p:Nat}(hcl:g5 w h c r)(hs:Sub r c)(hk:r.testBit k=true)(a:cU w h r k p):cU w h c k p:=fun j=>by
 rw[a j];constructor
 ·intro x
  induction x with
  |here e=>exact .here (hs _ e)
  |step _ n e ih=>exact .step ih n (hs _ e)
 ·intro x
  induction x with
  |here _=>exact .here hk
  |step _ n e ih=>exact .step ih n (hcl _ _ ih.in n e)
theorem qt{w h c r p:Nat}(hw:0<w)(hc:c<2^(w*h))(hcl:g5 w h c r)(hs:Sub r c){k:Nat}(a:cU w h c k p):g5 w h c (dif r p):=fun j i hj hn hi=>by
 rw[hZ,G8]at hj ⊢;refine⟨hcl j i hj.1 hn hi,?_⟩;cases e:p.testBit i with
 |false=>rfl
 |true=>have:p.testBit j=true:=(a j).mpr (.step ((a i).mp e) (se hw (gh hc (hs j hj.1)) hn) (hs j hj.1));rw[this]at hj;cases hj.2
theorem xl{c r p:Nat}(hs:Sub r c):Sub (dif r p) c:=fun j hj=>by rw[hZ,G8]at hj;exact hs j hj.1
theorem qo{w h r p:Nat}(hr:r<2^64)(h0:r≠0)(a:cU w h r (dS r) p):p≠0/\dS p=dS r/\p.testBit (dS r)=true:=by
 obtain⟨h1,h2,_⟩:=eI hr h0;have hp:p.testBit (dS r)=true:=(a _).mpr (.here h1);refine⟨fun z=>by rw[z]at hp;simp at hp,jU (gh hr h1) hp fun j hj=>?_,hp⟩;cases e:p.testBit j with
 |false=>rfl
 |true=>rw[<-h2 j hj,a.sub e]
theorem iN.mem{w h c:Nat}(hw:0<w)(hc:c<2^(w*h))(h64:w*h<=64){r:Nat}{ps:List Nat}(a:iN w h r ps):g5 w h c r->Sub r c->
  (∀p∈ps,∀k,p.testBit k=true->cU w h c k p)/\∀k,r.testBit k=true->∃p∈ps,p.testBit k=true:=by
 induction a with
 |nil=>exact fun _ _=>⟨fun p hp=>by simp at hp,fun k hk=>by simp at hk⟩
 | @cons r p ps z cp _ ih=>
  intro hcl hs;have hr:r<2^64:=F5 (kY fun j hj=>gh hc (hs j hj)) (GY (by decide) h64);have cc:=cp.of_closed hcl hs (eI hr z).1;obtain⟨i1,i2⟩:=ih (qt hw hc hcl hs cc) (xl hs);refine⟨fun q hq k hk=>?_,fun k hk=>?_⟩
  ·rcases Gg.mp hq with rfl|hq
   ·exact cc.at hw hc hk
   ·exact i1 q hq k hk
  ·cases e:p.testBit k with
   |true=>exact⟨p,F7,e⟩
   |false=>obtain⟨q,hq,hk'⟩:=i2 k (by rw[hZ,hk,e];rfl);exact⟨q,F1 _ hq,hk'⟩
theorem iN.len{w h r:Nat}{ps:List Nat}(a:iN w h r ps):∀{n:Nat},n<=64->r<2^n->ps.length<=n:=by
 suffices hh:∀(m:Nat),(∀j,j<m->r.testBit j=false)->∀{n:Nat},n<=64->r<2^n->ps.length+m<=max n m by intro n hn hr;have:=hh 0 (fun j hj=>by omega) hn hr;omega
 induction a with
 |nil=>intro m _ n _ _;simp;omega
 | @cons r p ps z cp _ ih=>
  intro m hm n hn hr;have hr64:r<2^64:=F5 hr (GY (by decide) hn);obtain⟨l1,l2,_⟩:=eI hr64 z;have hl:m<=dS r:=by
   rcases Nat.lt_or_ge (dS r) m with q|q
   ·rw[hm _ q]at l1;cases l1
   ·exact q
  have hln:=iY hr hn z;have hp:=(qo hr64 z cp).2.2
  have:=ih (dS r+1) (fun j hj=>by
   rw[hZ];rcases Nat.lt_or_ge j (dS r)with q|q
   ·rw[l2 j q];rfl
   ·have:j=dS r:=by omega
    rw[this,hp,Bool.not_true,Bool.and_false]) hn (qm hr)
  rw[Gs];omega
end LM
namespace My
open PySem L2 LM PyProof.Rows
theorem Cm{r p:Nat}(hs:Sub p r):p+dif r p=r:=by
 have e:r&&& p=p:=j8 fun j=>by
  rw[Hu];cases z:p.testBit j with
  |false=>rw[Bool.and_false]
  |true=>rw[hs j z];rfl
 have h1:p<=r:=by rw[<-e];exact Nat.and_le_left
 unfold dif;rw[e];omega
theorem and_zero{a b:Nat}(h:∀j,a.testBit j=true->b.testBit j=false):a&&& b=0:=j8 fun j=>by
 rw[Hu,Nat.zero_testBit];cases z:a.testBit j with
 |false=>rfl
 |true=>rw[h j z];rfl
noncomputable abbrev NV(L:List Nat):List V:=L.map fun k:Nat=>V.int (k:Int)
theorem jb(a b:List Nat):NV (a++b)=NV a++NV b:=Gk
theorem nh{K:Frag}{H:Hp}:∀(l:List Nat),eA K H (l.map fun k:Nat=>PyData.int (k:Int)) (NV l)
 | []=>.nil
 |x::l=>.cons (.int x) (nh l)
theorem vj:∀(l:List Nat),PyData.canLayAll0 (l.map fun k:Nat=>PyData.int (k:Int))=true
 | []=>rfl
 |x::l=>by show(PyData.canLay0 (.int x)&&PyData.canLayAll0 (l.map _))=true;rw[vj l];rfl
end My
namespace L2
open PySem PySem.Spec PyProof.Rows
section
variable{X:Cx}{K:Frag}
theorem mm(h:X.K=K):IxR X (EK K):=h▸bO
theorem fO(h:X.K=K):IxR X (EJ K):=h▸aF
theorem BL(h:X.K=K)(hu:X.A.units+64<cLine):OpR X (compareOp .NotEq) (EI K):=h▸wt hu
end
theorem Ca{K:Frag}{h:Heap}{mg:Str->Option Value}{x:Str}{i:Int}{t:Tok}(X:K.In h)(G:h.Ns mainGlobals mg)(a:nsIn K mainGlobals x=some (some (.int i t))):∃t,mg x=some (.int i t):=⟨t,HD X G a⟩
theorem mE{n:Nat}{g:TG}{tt:TT}{te:TE}{σ0:St}{lo:Int}{Q:Hp->Prop}{D:Addr}{H:Hp}(Pv:Nat->List V->Hp->Prop)(h0:Pv 0 [] H)
  (hs:∀i acc H2,i<n->Pv i acc H2->g (.int (lo+i)) σ0 H2 fun σ2 H4=>tt σ2 H4 fun b H5=>if b=true then te σ2 H5 fun y H6=>H6 D=some (.lst acc)/\acc.length<sizeLine/\Pv (i+1) (acc++[y]) (upd H6 D (.lst (acc++[y])))else Pv (i+1) acc H5)
  (hd:∀acc H2,Pv n acc H2->Q H2):
  ∃W:Nat->Nat->List V->Hp->Prop,(∃m,W 0 m [] H)/\∀i m acc H2,W i m acc H2->
   ((Itr lo n).stop i H2/\Q H2)\/((Itr lo n).go i H2/\∃N:List V->Hp->Prop,(∀acc' H',N acc' H'->∃m',m'<m/\W (i+1) m' acc' H')/\∀x H3,(Itr lo n).yld i H2 x H3->g x σ0 H3 fun σ2 H4=>tt σ2 H4 fun b H5=>if b=true then te σ2 H5 fun y H6=>H6 D=some (.lst acc)/\acc.length<sizeLine/\N (acc++[y]) (upd H6 D (.lst (acc++[y])))else N acc H5):=
 wW (Q:=fun _ H=>Q H) Pv h0 hs hd
theorem qq{K:Frag}{a:Addr}{xs:List V}{g:TG}{tt:TT}{te:TE}{σ0:St}{Q:Hp->Prop}{D:Addr}{H:Hp}(Pv:Nat->List V->Hp->Prop)(h0:Pv 0 [] H)(hl:∀i acc H,i<=xs.length->Pv i acc H->SqL K H a xs)
  (hs:∀i x acc H2,xs[i]?=some x->Pv i acc H2->g x σ0 H2 fun σ2 H4=>tt σ2 H4 fun b H5=>if b=true then te σ2 H5 fun y H6=>H6 D=some (.lst acc)/\acc.length<sizeLine/\Pv (i+1) (acc++[y]) (upd H6 D (.lst (acc++[y])))else Pv (i+1) acc H5)
  (hd:∀acc H2,Pv xs.length acc H2->Q H2):
  ∃W:Nat->Nat->List V->Hp->Prop,(∃m,W 0 m [] H)/\∀i m acc H2,W i m acc H2->
   ((Itl K a).stop i H2/\Q H2)\/((Itl K a).go i H2/\∃N:List V->Hp->Prop,(∀acc' H',N acc' H'->∃m',m'<m/\W (i+1) m' acc' H')/\∀x H3,(Itl K a).yld i H2 x H3->g x σ0 H3 fun σ2 H4=>tt σ2 H4 fun b H5=>if b=true then te σ2 H5 fun y H6=>H6 D=some (.lst acc)/\acc.length<sizeLine/\N (acc++[y]) (upd H6 D (.lst (acc++[y])))else N acc H5):=
 yO (Q:=fun _ H=>Q H) Pv h0 hl hs hd
section
variable{κ:Type}[DecidableEq κ]
noncomputable def eu(kvs:List (κ×V))(k:κ):Option V:=(kvs.find? fun kv=>decide (kv.1=k)).map (·.2)
noncomputable def putK(kvs:List (κ×V))(k:κ)(v:V):List (κ×V):=
 if(kvs.any fun kv=>decide (kv.1=k))=true then kvs.map (fun kv=>if kv.1=k then(kv.1,v)else kv)else kvs++[(k,v)]
theorem cK{p:κ×V}{r:List (κ×V)}{k:κ}(e:p.1=k):eu (p::r) k=some p.2:=by simp[eu,GJ,e]
theorem cL{p:κ×V}{r:List (κ×V)}{k:κ}(e:¬p.1=k):eu (p::r) k=eu r k:=by simp[eu,GJ,e]
theorem jn(k:κ):∀kvs:List (κ×V),(kvs.any fun kv=>decide (kv.1=k))=(eu kvs k).isSome
 | []=>rfl
 |p::r=>by
  rw[Hw];by_cases e:p.1=k
  ·simp only[cK e,Gp e,Bool.true_or,Option.isSome_some]
  ·rw[cL e,Gw e,Bool.false_or];exact jn k r
theorem uA(k j:κ)(y:V):∀kvs:List (κ×V),eu (kvs.map fun kv=>if kv.1=k then(kv.1,y)else kv) j=(eu kvs j).map fun x=>if j=k then y else x
 | []=>rfl
 |p::r=>by
  have ih:=uA k j y r;rw[F9];by_cases h:p.1=k
  ·rw[F8 h];by_cases e:p.1=j
   ·rw[cK (p:=(p.1,y)) e,cK e,Option.map_some,F8 (e.symm.trans h)]
   ·rw[cL (p:=(p.1,y)) e,cL e,ih]
  ·rw[F6 h];by_cases e:p.1=j
   ·rw[cK (p:=p) e,cK e,Option.map_some,F6 (fun z=>h (e.trans z))]
   ·rw[cL (p:=p) e,cL e,ih]
theorem rH(k j:κ)(y:V):∀kvs:List (κ×V),eu kvs k=none->eu (kvs++[(k,y)]) j=if j=k then some y else eu kvs j
 | [],_=>by
  by_cases e:k=j
  ·rw[F8 e.symm];exact cK (p:=(k,y)) e
  ·rw[F6 (fun z=>e z.symm)];exact cL (p:=(k,y)) e
 |p::r,hn=>by
  rw[List.cons_append];have hk:¬p.1=k:=fun z=>by rw[cK z]at hn;cases hn
  rw[cL hk]at hn;have ih:=rH k j y r hn;by_cases e:p.1=j
  ·rw[cK e,cK e,F6 (fun z=>hk (e.trans z))]
  ·rw[cL e,cL e,ih]
theorem zi(kvs:List (κ×V))(k j:κ)(y:V):eu (putK kvs k y) j=if j=k then some y else eu kvs j:=by
 unfold putK;by_cases a:(kvs.any fun kv=>decide (kv.1=k))=true
 ·rw[F8 a,uA];rw[jn]at a;by_cases e:j=k
  ·obtain⟨x,hx⟩:=Option.isSome_iff_exists.mp a;rw[F8 e,e,hx,Option.map_some,F8 rfl]
  ·rw[F6 e];cases eu kvs j with
   |none=>rfl
   |some x=>rw[Option.map_some,F6 e]
 ·rw[F6 a];refine rH k j y kvs ?_;rw[jn]at a;cases q:eu kvs k with
  |none=>rfl
  |some x=>rw[q]at a;exact(a rfl).elim
theorem jI(kvs:List (κ×V))(k:κ)(v:V):(putK kvs k v).length<=kvs.length+1:=by
 unfold putK;split
 ·rw[FY];omega
 ·rw[Gd,Gs,List.length_nil];omega
theorem zK{kvs:List (κ×V)}{k:κ}(v:V)(h:eu kvs k=none):putK kvs k v=kvs++[(k,v)]:=by unfold putK;rw[jn,h];exact F6 (by decide)
theorem gY.isSome_eq{o:Option V}{u:Option Value}(r:gY o u):o.isSome=u.isSome:=by
 cases o with
 |none=>cases u with
  |none=>rfl
  |some _=>exact(show False from r).elim
 |some _=>cases u with
  |none=>exact(show False from r).elim
  |some _=>rfl
theorem gY.getD{o:Option V}{u:Option Value}{d:V}{d':Value}(r:gY o u)(rd:RelV d d'):RelV (o.getD d) (u.getD d'):=by
 cases o with
 |none=>cases u with
  |none=>exact rd
  |some _=>exact(show False from r).elim
 |some _=>cases u with
  |none=>exact(show False from r).elim
  |some _=>exact r
theorem KV.val{kvs:List (κ×V)}{vs:List (κ×Value)}(r:KV kvs vs)(k:κ):gY (eu kvs k) (valueAt vs k):=by
 unfold KV at r
 induction r with
 |nil=>exact True.intro
 | @cons p q ps qs h t ih=>
  obtain⟨h1,h2⟩:=h;by_cases e:p.1=k
  ·have e':q.1=k:=h1.symm.trans e;have b:valueAt (q::qs) k=some q.2:=(by simp[valueAt,GJ,e']);rw[cK e,b];exact h2
  ·have e':¬q.1=k:=fun z=>e (h1.trans z);have b:valueAt (q::qs) k=valueAt qs k:=(by simp[valueAt,GJ,e']);rw[cL e,b];exact ih
theorem KV.any{kvs:List (κ×V)}{vs:List (κ×Value)}(r:KV kvs vs)(k:κ):(kvs.any fun kv=>decide (kv.1=k))=vs.any fun kv=>decide (kv.1=k):=by
 unfold KV at r
 induction r with
 |nil=>rfl
 |cons h t ih=>rw[Hw,Hw,ih,h.1]
theorem KV.repl{kvs:List (κ×V)}{vs:List (κ×Value)}(r:KV kvs vs)(k:κ){y:V}{u:Value}(ry:RelV y u):
  KV (kvs.map fun kv=>if kv.1=k then(kv.1,y)else kv) (vs.map fun kv=>if kv.1=k then(kv.1,u)else kv):=by
 unfold KV at r ⊢
 induction r with
 |nil=>exact .nil
 | @cons p q ps qs h t ih=>
  rw[F9,F9];refine .cons ?_ ih;obtain⟨h1,h2⟩:=h;by_cases e:p.1=k
  ·rw[F8 e,F8 (h1.symm.trans e)];exact⟨h1,ry⟩
  ·rw[F6 e,F6 (fun z=>e (h1.trans z))];exact⟨h1,h2⟩
theorem KV.put{kvs:List (κ×V)}{vs:List (κ×Value)}(r:KV kvs vs)(k:κ){y:V}{u:Value}(ry:RelV y u):KV (putK kvs k y) (stored vs k u):=by
 unfold putK stored;rw[r.any k];by_cases e:(vs.any fun kv=>decide (kv.1=k))=true
 ·rw[F8 e,F8 e];exact r.repl k ry
 ·rw[F6 e,F6 e];exact Paired.snoc r ⟨rfl,ry⟩
theorem KV.length{kvs:List (κ×V)}{vs:List (κ×Value)}(r:KV kvs vs):kvs.length=vs.length:=Gi r
end
theorem vm{P:Program}{w:World}{k:Key}{u:Value}(r:RelV (kV k) u):(ba P w).is k u=true:=by
 cases k with
 |inl i=>obtain⟨t,e⟩:=(show ∃t,u=Value.int i t from r);subst e;exact ve P w i t
 |inr x=>obtain⟨t,e⟩:=(show ∃t,u=Value.str x t from r);subst e;exact vc P w x t
theorem ng{P:Program}{w:World}:∀{ks:List Key}{us:List Value},Vals (ks.map kV) us->ItemsAre (ba P w) ks us
 | [],_,r=>by rw[HH]at r;cases r;exact .nil
 |k::ks,_,r=>by
  rw[F9]at r;cases r with
  |cons h t=>exact .cons (vm h) (ng t)
abbrev KT(H:Hp):List (List Key×V)->List (List Key×Addr×Value)->Prop:=Paired fun p q=>p.1=q.1/\H q.2.1=some (.tup (p.1.map kV))/\RelV p.2 q.2.2
theorem KT.val{H:Hp}{kvs:List (List Key×V)}{xs:List (List Key×Addr×Value)}(r:KT H kvs xs)(k:List Key):gY (eu kvs k) ((atKey xs k).map (·.2)):=by
 induction r with
 |nil=>exact True.intro
 | @cons p q ps qs h t ih=>
  obtain⟨h1,_,h2⟩:=h;by_cases e:p.1=k
  ·have e':q.1=k:=h1.symm.trans e;have b:atKey (q::qs) k=some q.2:=(by simp[atKey,GJ,e']);rw[cK e,b];exact h2
  ·have e':¬q.1=k:=fun z=>e (h1.trans z);have b:atKey (q::qs) k=atKey qs k:=(by simp[atKey,GJ,e']);rw[cL e,b];exact ih
theorem KT.repl{H:Hp}{kvs:List (List Key×V)}{xs:List (List Key×Addr×Value)}(r:KT H kvs xs)(k:List Key){y:V}{u:Value}(ry:RelV y u):
  KT H (kvs.map fun kv=>if kv.1=k then(kv.1,y)else kv) (xs.map (putAt k u)):=by
 induction r with
 |nil=>exact .nil
 | @cons p q ps qs h t ih=>
  rw[F9,F9];refine .cons ?_ ih;obtain⟨h1,h2,h3⟩:=h;unfold putAt;by_cases e:p.1=k
  ·rw[F8 e,F8 (h1.symm.trans e)];exact⟨h1,h2,ry⟩
  ·rw[F6 e,F6 (fun z=>e (h1.trans z))];exact⟨h1,h2,h3⟩
theorem KT.put{H:Hp}{kvs:List (List Key×V)}{xs:List (List Key×Addr×Value)}(r:KT H kvs xs)(k:List Key){b:Addr}{y:V}{u:Value}(hb:H b=some (.tup (k.map kV)))(ry:RelV y u):
  KT H (putK kvs k y) (storedH xs k b u):=by
 have e:(kvs.any fun kv=>decide (kv.1=k))=(atKey xs k).isSome:=by rw[jn,(r.val k).isSome_eq,Option.isSome_map]
 unfold putK storedH;rw[e];by_cases q:(atKey xs k).isSome=true
 ·rw[F8 q,F8 q];exact r.repl k ry
 ·rw[F6 q,F6 q];exact Paired.snoc r ⟨rfl,hb,ry⟩
theorem KT.keeps{H H':Hp}{kvs:List (List Key×V)}{xs:List (List Key×Addr×Value)}(r:KT H kvs xs)(ht:∀b ys,H b=some (.tup ys)->H' b=some (.tup ys)):KT H' kvs xs:=
 Paired.mapP r fun _ _ z=>⟨z.1,ht _ _ z.2.1,z.2.2⟩
section
variable{P:Program}{w:World}{H:Hp}{h:Heap}{a:Addr}
theorem CM{u:HO}(ok:HOk P w H h)(e:Rd H a u):bN P w H h a u:=e.ok ok
theorem vD{kvs:List (Key×V)}(ok:HOk P w H h)(e:Rd H a (.dK kvs)):kvs.length<=sizeLine/\(a==sysModules)=false/\∃vs,KV kvs vs/\h.DictOf (ba P w) a vs:=
 show bN P w H h a (.dK kvs)from CM ok e
theorem E9{kvs:List (Key×V)}(ok:HOk P w H h)(e:H a=some (.dK kvs)):kvs.length<=sizeLine/\(a==sysModules)=false/\∃vs,KV kvs vs/\h.DictOf (ba P w) a vs:=vD ok (.inl e)
theorem t8{ks:List Key}(ok:HOk P w H h)(e:H a=some (.tup (ks.map kV))):(tupleKind (ba P w)).is h ks a:=by obtain⟨_,its,r,o,h1,h2,n,h3⟩:=(show bN P w H h a (.tup (ks.map kV))from ok a _ e);exact⟨o,its.toArray,n,h1,h2,h3,by simpa using ng r⟩
theorem vC{kvs:List (List Key×V)}(ok:HOk P w H h)(e:Rd H a (.dT kvs)):kvs.length<=sizeLine/\(a==sysModules)=false/\
  ∃xs,KT H kvs xs/\h.DictOfH (tupleKind (ba P w)) a xs:=by
 obtain⟨z,y,xs,r,o,es,ep,h1,h2,h3,h4,h5⟩:=(show bN P w H h a (.dT kvs)from CM ok e);refine⟨z,y,xs,r,o,es,ep,h1,h2,h3,h4,fun x hx=>?_,h5⟩;have all:∀{l:List (List Key×V)}{m:List (List Key×Addr×Value)},KT H l m->∀x∈m,(tupleKind (ba P w)).is h x.1 x.2.1:=by
  intro l m q
  induction q with
  |nil=>intro x hx;exact nomatch hx
  | @cons p q ps qs hq t ih=>
   intro x hx;rcases Gg.mp hx with e|hx
   ·subst e;exact t8 ok (by rw[<-hq.1];exact hq.2.1)
   ·exact ih x hx
 exact all r x hx
theorem E8{kvs:List (List Key×V)}(ok:HOk P w H h)(e:H a=some (.dT kvs)):kvs.length<=sizeLine/\(a==sysModules)=false/\
 ∃xs,KT H kvs xs/\h.DictOfH (tupleKind (ba P w)) a xs:=vC ok (.inl e)
end
def jj(H:Hp)(a:Addr)(y:V)(r:Option V):Prop:=
 (∃kvs k,Rd H a (.dK kvs)/\y=kV k/\r=eu kvs k)\/∃kvs k b,Rd H a (.dT kvs)/\y=.ref b/\H b=some (.tup (k.map kV))/\r=eu kvs k
def qG(H:Hp)(a:Addr)(y v:V)(H':Hp):Prop:=
 (∃kvs k,H a=some (.dK kvs)/\y=kV k/\kvs.length<sizeLine/\H'=upd H a (.dK (putK kvs k v)))\/
 ∃kvs k b,H a=some (.dT kvs)/\y=.ref b/\H b=some (.tup (k.map kV))/\kvs.length<sizeLine/\H'=upd H a (.dT (putK kvs k v))
theorem jj.k{H:Hp}{a:Addr}{kvs:List (Key×V)}{k:Key}(e:H a=some (.dK kvs)):jj H a (kV k) (eu kvs k):=.inl ⟨kvs,k,.inl e,rfl,rfl⟩
theorem qG.k{H:Hp}{a:Addr}{kvs:List (Key×V)}{k:Key}{v:V}(e:H a=some (.dK kvs))(hl:kvs.length<sizeLine):qG H a (kV k) v (upd H a (.dK (putK kvs k v))):=.inl ⟨kvs,k,e,rfl,hl,rfl⟩
section
variable{X:Cx}{pins:List (Addr×Obj)}{σ:St}{H:Hp}{s:Shared}{a:Addr}{y v:V}{u r:Value}{o:Option V}{A:Around}{E:Value->Shared->Prop}
theorem Inv.big(I:Inv X pins σ H s):sysModules<s.heap.objs.size:=by have h:mainGlobals<s.heap.objs.size:=(I.mod.glob.keeps I.bk).lt;exact Nat.lt_trans (by decide) h
theorem yN{Q:Value->Shared->Prop}(hu:A.units+1<cLine)(I:Inv X pins σ H s)(g:jj H a y (some v))(ry:RelV y u)(h:∀w' s',Inv X pins σ H s'->RelV v w'->Q w' s'):
  wpAny (model X.prog X.w) A (getItem (.ref a) u) Q E s:=by
 rcases g with⟨kvs,k,e,ey,l⟩|⟨kvs,k,b,e,ey,eb,l⟩
 ·subst ey;obtain⟨z,hd,vs,rel,dd⟩:=vD I.hok e;obtain⟨w',hw,rw'⟩:=gY.some_of (v:=v) (o:=valueAt vs k) (by rw[l];exact rel.val k);exact wpAny_getItem_of (vm ry) dd.mapOf hw (h w' _ (I.tok _) rw')
 ·subst ey;cases (show u=Value.ref b from ry);obtain⟨z,hd,xs,rel,dd⟩:=vC I.hok e;obtain⟨w',hw,rw'⟩:=gY.some_of (v:=v) (o:=(atKey xs k).map (·.2)) (by rw[l];exact rel.val k);obtain⟨p,hp,hp2⟩:=Option.map_eq_some_iff.mp hw;refine wpAny_getItem_heap (tupleKind_room_in1 hu) (t8 I.hok eb) dd hp ?_;rw[hp2];exact h w' _ (I.tok _) rw'
theorem ug{h':Heap}{t':Nat}{ob:HO}(I:Inv X pins σ H s)(mu:Mut (H a))(hs:Heap.SameBut a s.heap h')(he:∃q,h'.get? a=some q)(new:bN X.prog X.w (upd H a ob) h' a ob):
  Inv X pins σ (upd H a ob) {s with heap:=h',toks:=t'}:=
 I.write (x:=a) (e:=a) mu (.inl rfl) (fun b q hb z=>(hs.2 b hb).trans z) he new
theorem AL{P:Program}{w:World}{H':Hp}{h':Heap}{kvs:List (Key×V)}{vs:List (Key×Value)}(z:kvs.length<=sizeLine)(hd:(a==sysModules)=false)(rel:KV kvs vs)(dd:h'.DictOf (ba P w) a vs):
 bN P w H' h' a (.dK kvs):=⟨z,hd,vs,rel,dd⟩
theorem yM{H':Hp}{Q:Unit->Shared->Prop}(hu:A.units+1<cLine)(I:Inv X pins σ H s)(g:qG H a y v H')(ry:RelV y u)(rv:RelV v r)(h:∀s',Inv X pins σ H' s'->Q () s'):
  wpAny (model X.prog X.w) A (setItem (.ref a) u r) Q E s:=by
 rcases g with⟨kvs,k,e,ey,l,eH⟩|⟨kvs,k,b,e,ey,eb,l,eH⟩
 ·subst ey eH;obtain⟨z,hd,vs,rel,dd⟩:=E9 I.hok e;have hz:vs.length<=sizeLine:=by rw[<-rel.length];exact z
  have hl:(putK kvs k v).length<=sizeLine:=by have:=jI kvs k v;omega
  refine wpAny_setItem_pairs (hsz:=hz) (vm ry) dd fun h' dd' hs=>h _ ?_;have he:∃q,h'.get? a=some q:=let ⟨q,_,_,hq,_⟩:=dd';⟨q,hq⟩;exact ug I (by rw[e];exact True.intro) hs he (AL hl hd (rel.put k rv) dd')
 ·subst ey eH;cases (show u=Value.ref b from ry);obtain⟨z,hd,xs,rel,dd⟩:=E8 I.hok e;have hz:xs.length<=sizeLine:=by rw[<-Gi rel];exact z
  have hl:(putK kvs k v).length<=sizeLine:=by have:=jI kvs k v;omega
  refine wpAny_setItem_heap (hsz:=hz) (tupleKind_room_in1 hu) (t8 I.hok eb) dd fun h' dd' hs=>h _ ?_;obtain⟨q,es,ep,hq,h2,h3,h4,_,h5⟩:=dd';refine ug I (by rw[e];exact True.intro) hs ⟨q,hq⟩ ⟨hl,hd,_,(rel.put k eb rv).keeps fun c ys ec=>?_,q,es,ep,hq,h2,h3,h4,h5⟩;rw[az (hW ec e (fun z=>nomatch z))];exact ec
end
def Ee(i:Expr):Prop:=∀ov iv,subscripted i false ov iv=operate [ov,iv] (getItem ov iv)
theorem xm{prog:Program}{w:World}{A:Around}{E:Value->Shared->Prop}{s:Shared}{env:Env}{value slice:Expr}{pos:Pos}{T id:String}{Q:Value->Shared->Prop}
  (hl:typeLookup (.type T) "__getitem__"=pure (some (.builtin id))) (hs:Ee slice)
  (h:wpAny (model prog w) A (eval value env) (fun o s₁=>wpAny (model prog w) A (eval slice env) (fun i s₂=>s₂.TypeIs o T/\wpAny (model prog w) A (getItem o i) Q E s₂) E s₁) E s):
  wpAny (model prog w) A (eval (.Subscript value slice pos) env) Q E s:=by
 refine Subscript_ (Gy h (fun o s₁ h₁=>Gy h₁ (fun i s₂ h₂=>?_) fun _ _ x=>x) fun _ _ x=>x);obtain⟨hT,h₂⟩:=h₂;unfold subscriptTail;refine FZ ?_;rw[getitemInPython_of_ne hT.not_modules];refine FZ (wpAny_specialOf hT hl ?_);have fin:wpAny (model prog w) A (subscripted slice false o i) (fun r s₃=>wpAny (model prog w) A (letTemporaryGo value o r>>= fun _=>pure r) Q E s₃) E s₂:=by rw[hs o i];exact wpAny_operating (Gy h₂ (fun r s₃ h₃=>FZ (wpAny_letTemporaryGo (F3 h₃))) fun _ _ x=>x)
 first
  |exact F3 (FZ fin)
  |exact FZ (F3 (FZ fin))
  |exact FZ fin
theorem vE{X:Cx}{pins:List (Addr×Obj)}{σ:St}{H:Hp}{s:Shared}{a:Addr}{y:V}{o:Option V}(I:Inv X pins σ H s)(g:jj H a y o):s.TypeIs (.ref a) "dict":=by
 rcases g with⟨kvs,k,e,_,_⟩|⟨kvs,k,b,e,_,_,_⟩
 ·obtain⟨_,_,vs,_,dd⟩:=vD I.hok e;exact dd.typeIs
 ·obtain⟨_,_,xs,_,dd⟩:=vC I.hok e;exact dd.typeIs
def Ex(td ty:TE):TE:=fun σ H Q=>td σ H fun x H1=>ty σ H1 fun y H2=>∃a v,x=.ref a/\jj H2 a y (some v)/\Q v H2
def EF(td ty tv:TE):TS:=fun D σ H=>tv σ H fun v H1=>td σ H1 fun x H2=>ty σ H2 fun y H3=>∃a H4,x=.ref a/\qG H3 a y v H4/\D.nx σ H4
section
variable{X:Cx}{o i e value:Expr}{pos pos' tpos:Pos}{td ty tv:TE}
theorem iV(hu:X.A.units+1<cLine)(ho:PE X o td)(hi:PE X i ty)(hs:Ee i):PE X (.Subscript o i pos) (Ex td ty):=by intro pins s σ H Q I h;refine xm PySem.F.slot_dict_getitem.lookup hs (thn (ho pins s σ H _ I h) fun u s1 hPz=>L2.ep3 hPz fun x H1 I1 rx q1=>thn (hi pins s1 σ H1 _ I1 q1) fun iv s2 hPz=>?_);obtain⟨y,H2,I2,ry,a,v,ex,g,q2⟩:=hPz;subst ex;obtain rfl:u=Value.ref a:=rx;exact⟨vE I2 g,yN hu I2 g ry fun w' s3 I3 rw'=>⟨v,H2,I3,rw',q2⟩⟩
theorem iS(hu:X.A.units+1<cLine)(ho:PE X o td)(hi:PE X i ty)(hv:PE X value tv)(hs:swapsWith value (some (.Subscript o i pos')) pos.line X.env=pure false):
  PS X (.Assign [.Subscript o i pos'] value pos) (EF td ty tv):=by
 intro pins s σ H D I h;refine wpAny_Assign_Subscript (thn (hv pins s σ H _ I h) fun r s1 hPz=>L2.ep3 hPz fun v H1 I1 rv q1=>thn (ho pins s1 σ H1 _ I1 q1) fun u s2 hPz=>L2.ep3 hPz fun x H2 I2 rx q2=>thn (hi pins s2 σ H2 _ I2 q2) fun iv s3 hPz=>?_) hs;obtain⟨y,H3,I3,ry,a,H4,ex,g,q3⟩:=hPz;subst ex;obtain rfl:u=Value.ref a:=rx;exact yM hu I3 g ry rv fun s4 I4=>⟨σ,H4,I4,q3⟩
end
theorem AM{P:Program}{w:World}{H:Hp}(h:Heap)(hb:sysModules<h.objs.size):bN P w H (h.push {cls:=.type "dict",data:=.dict #[]}) h.objs.size (.dK []):=
 ⟨GO _,G6.mpr (Hg (Gz hb)),[],.nil,Heap.DictOf.new h⟩
def Dh:TE:=fun _ H Q=>∀p,H p=none->Q (.ref p) (upd H p (.dK []))
section
variable{X:Cx}{pos:Pos}
theorem pO:PE X (.Dict [] [] pos) Dh:=fun pins s σ H Q I h=>wpAny_Dict_empty ⟨.ref s.heap.objs.size,_,I.laid (a:=s.heap.objs.size) (o:=.dK []) (t':=s.toks) (fun _ _ q=>F0 _ q) (F4 _) (AM s.heap I.big),rfl,h _ (I.hok.fresh (F4 _))⟩
end
noncomputable def dR(kvs more:List (Key×V)):List (Key×V):=more.foldl (fun acc kv=>putK acc kv.1 kv.2) kvs
theorem KV.merge:∀{more:List (Key×V)}{rs:List (Key×Value)}{kvs:List (Key×V)}{vs:List (Key×Value)},KV more rs->KV kvs vs->KV (dR kvs more) (merged vs rs):=by
 intro more rs kvs vs r;unfold KV at r
 induction r generalizing kvs vs with
 |nil=>intro q;exact q
 | @cons p q ps qs h t ih=>
  intro r0;have e:KV (putK kvs p.1 p.2) (stored vs q.1 q.2):=by have:=r0.put p.1 h.2;rw[<-h.1];exact this
  exact ih e
theorem kE:∀(more kvs:List (Key×V)),(dR kvs more).length<=kvs.length+more.length
 | [],kvs=>by show kvs.length<=kvs.length+0;omega
 |p::r,kvs=>by have h1:=kE r (putK kvs p.1 p.2);have h2:=jI kvs p.1 p.2;show(dR (putK kvs p.1 p.2) r).length<=_;rw[Gs];omega
structure M2(X:Cx)(o:Expr)(m:Str)(apos:Pos)(e f:Expr)(cpos:Pos):Prop where
 base:attributeBase o m X.env (eval o X.env)=eval o X.env
 few:((backTo cpos (starEach [e,f] X.env)).all (fun x=> !x.1)&&(backToKw cpos (keywordEach [] X.env)).all (fun x=>x.1.isSome)
  &&decide (([e,f]:List Expr).length+([]:List Keyword).length+(if([]:List Keyword).isEmpty then 0 else 1)<30))=true
 line:(apos.endLine==cpos.line)=true
 trees:backTo cpos (starEach [e,f] X.env)=[(false,eval e X.env),(false,eval f X.env)]
def Fg(H:Hp)(a:Addr):Prop:=(∃kvs,Rd H a (.dK kvs))\/∃kvs,Rd H a (.dT kvs)
theorem DT{X:Cx}{pins:List (Addr×Obj)}{σ:St}{H:Hp}{s:Shared}{a:Addr}(I:Inv X pins σ H s)(d:Fg H a):
  s.TypeIs (.ref a) "dict"/\(∀b,Value.ref a=.ref b->∃ob,s.heap.get? b=some ob/\ob.dict=none)/\(a==sysModules)=false:=by
 rcases d with⟨kvs,e⟩|⟨kvs,e⟩
 ·obtain⟨_,hd,vs,_,dd⟩:=vD I.hok e;refine⟨dd.typeIs,fun b q=>?_,hd⟩;cases q;obtain⟨ob,_,_,h1,h2,_⟩:=dd;exact⟨ob,h1,h2.2.1⟩
 ·obtain⟨_,hd,xs,_,dd⟩:=vC I.hok e;refine⟨dd.typeIs,fun b q=>?_,hd⟩;cases q;obtain⟨ob,_,_,h1,h2,_⟩:=dd;exact⟨ob,h1,h2.2.1⟩
section
variable{X:Cx}{pins:List (Addr×Obj)}{σ:St}{H:Hp}{s:Shared}{a:Addr}{y d:V}{u r:Value}{o:Option V}{A:Around}{E:Value->Shared->Prop}
theorem D0{Q:Value->Shared->Prop}(hu:A.units+1<cLine)(I:Inv X pins σ H s)(g:jj H a y o)(ry:RelV y u)(rd:RelV d r)(h:∀w' s',Inv X pins σ H s'->RelV (o.getD d) w'->Q w' s'):
  wpAny (model X.prog X.w) A (call (.builtin "dict.get") [.ref a,u,r]) Q E s:=by
 rcases g with⟨kvs,k,e,ey,l⟩|⟨kvs,k,b,e,ey,eb,l⟩
 ·subst ey;obtain⟨z,hd,vs,rel,dd⟩:=vD I.hok e;refine call_meetsIn PySem.F.slot_dict_get dd.typeIs PySem.F.entry_dict_get (PySem.F.args_dict_get_3 _ _ _) (meets_dict_get_default (ba X.prog X.w) a (vm ry) hd r) ⟨_,dd.mapOf,h _ _ (I.tok _) ?_⟩;rw[l];exact(rel.val k).getD rd
 ·subst ey;cases (show u=Value.ref b from ry);obtain⟨z,hd,xs,rel,dd⟩:=vC I.hok e;refine call_meetsIn PySem.F.slot_dict_get dd.typeIs PySem.F.entry_dict_get (PySem.F.args_dict_get_3 _ _ _) (meetsH_dict_get_default (tupleKind (ba X.prog X.w)) a b hd r) ⟨tupleKind_room_in1 hu,k,xs,t8 I.hok eb,dd,h _ _ (I.tok _) ?_⟩;rw[l];exact(rel.val k).getD rd
end
def Dj(td ty tx:TE):TE:=fun σ H Q=>td σ H fun x H1=>∃a,x=.ref a/\Fg H1 a/\ty σ H1 fun y H2=>tx σ H2 fun z H3=>∃o,jj H3 a y o/\Q (o.getD z) H3
section
variable{X:Cx}{o e f:Expr}{apos cpos:Pos}{td ty tx:TE}
theorem lW(hu:X.A.units+1<cLine)(ho:PE X o td)(he:PE X e ty)(hf:PE X f tx)(m:M2 X o "get" apos e f cpos):PE X (.Call (.Attribute o "get" apos) [e,f] [] cpos) (Dj td ty tx):=by
 intro pins s σ H Q I h;refine wpAny_Call_method m.base m.few m.line PySem.F.plainAttrs_dict PySem.F.slot_dict_get PySem.F.type_dict_get (thn (ho pins s σ H _ I h) fun u s1 hPz=>?_);obtain⟨x,H1,I1,rx,a,ex,d,q1⟩:=hPz;subst ex;obtain rfl:u=Value.ref a:=rx;obtain⟨t1,t2,_⟩:=DT I1 d;refine⟨t1,t2,?_⟩;rw[m.trees]
 refine Calls.callWith_builtin rfl (Calls.evalArgs_plain (Calls.spliced_cons (thn (he pins s1 σ H1 _ I1 q1) fun iv s2 ⟨y,H2,I2,ry,q2⟩=>Calls.spliced_cons (thn (hf pins s2 σ H2 _ I2 q2) fun fv s3 ⟨z,H3,I3,rz,ov,g,q3⟩=>Calls.spliced_nil ?_))))
 exact D0 hu I3 g ry rz fun w' s4 I4 rw'=>⟨_,H3,I4,rw',q3⟩
end
theorem uX{α β:Type}{R:α->β->Prop}{b c:List β}(p:b.Perm c):∀{a:List α},Paired R a b->∃d,a.Perm d/\Paired R d c:=by
 induction p with
 |nil=>intro a h;cases h;exact⟨[],.refl _,.nil⟩
 |cons x _ ih=>
  intro a h;cases h with
  |cons r t=>obtain⟨d,h1,h2⟩:=ih t;exact⟨_,h1.cons _,.cons r h2⟩
 |swap x y l=>
  intro a h;cases h with
  |cons r t=>
   cases t with
   |cons r2 t2=>exact⟨_,List.Perm.swap _ _ _,.cons r2 (.cons r t2)⟩
 |trans _ _ ih1 ih2=>intro a h;obtain⟨d,h1,h2⟩:=ih1 h;obtain⟨e,h3,h4⟩:=ih2 h2;exact⟨e,h1.trans h3,h4⟩
section
variable{X:Cx}{k:Nat}{f:Addr}{fd:FuncData}{ps:List Str}{sp:Sp}
theorem Inv.track{pins:List (Addr×Obj)}{σ:St}{H:Hp}{s:Shared}{h':Heap}{D:Addr}{ys:List V}{its:List Value}{n t':Nat}(I:Inv X pins σ H s)(fD:ot X pins H D)(k:∀b o,b≠D->s.heap.get? b=some o->h'.get? b=some o)
  (hv:Vals ys its) (hz:ys.length<=sizeLine) (g:h'.get? D=some {cls:=.type "list",data:=.seq its.toArray n}):Inv X pins σ (upd H D (.lst ys)) {s with heap:=h',toks:=t'}:=by
 obtain⟨f0,f1,f2,f3,f4,f5⟩:=fD;have nD:∀b u,H b=some u->b≠D:=fun b u e z=>by rw[z,f0]at e;cases e
 refine I.step (g':=s.gens) (d':=s.drawn) (ch:=[D]) (fun b hb=>?_) (fun b o _ _ hc e _=>k b o (fun z=>hc (by simp[z])) e) (fun b o _ _ hc e _=>⟨o.slots,k b o (fun z=>hc (by simp[z])) e⟩)
  (fun b o hc _ q=>by rw[az (fun z=>hc (by simp[z]))];exact q) (fun b o hc e=>⟨o,k b o (fun z=>hc (by simp[z])) e⟩) (fun b xs e=>by rw[az (nD b _ e)];exact e) (fun b o u e=>by rw[az (nD b _ e)];exact e)
  (fun b ps e=>⟨#[],by rw[az (nD b _ e),e];simp⟩) (fun m hm=>?_) (fun b u e=>?_) I.bare
 ·obtain rfl:b=D:=by simpa using hb
  exact⟨f3,f1,f4,f5⟩
 ·obtain⟨o,es,ep,ho,r⟩:=hm;exact⟨o,es,ep,k _ o (Hg f1) ho,r⟩
 ·by_cases hbD:b=D
  ·subst hbD;rw[af]at e;cases e;exact⟨hz,its,n,hv,g⟩
  ·rw[az hbD]at e;refine(I.hok b u e).stay (fun c v hc q=>k c v ?_ q) (fun c q=>?_) fun c xs q=>?_
   ·rcases hc with z|z
    ·rw[z];exact hbD
    ·exact nD c _ z
   ·rw[az (nD c _ q)];exact q
   ·rw[az (nD c _ q)];exact q
end
theorem ET{X:Cx}{tg l:Expr}{w1 w2:TI}(h1:PI X tg l w1)(h2:PI X tg l w2):PI X tg l (fun σ H R=>w1 σ H R\/w2 σ H R):=by
 intro pins s σ H R I h;rcases h with h|h
 ·exact h1 pins s σ H R I h
 ·exact h2 pins s σ H R I h
theorem zN{X:Cx}{tg l:Expr}{tl:TE}(hl:PE X l tl):PI X tg l (fun σ H R=>CV X.K tl σ H R\/E4 X.K tl σ H R):=ET (dE hl) (iq hl)
end L2
namespace LM
open PyProof.Rows
structure qH(w h c k:Nat)(G T:List Nat):Prop where
 nd:G.Nodup
 at_:k∈G
 rc:∀x∈G,Rch w h c k x
 sb:∀x∈T,x∈G
 cl:∀x∈G,¬x∈T->∀i∈ei w h x,c.testBit i=true->i∈G
theorem qH.start{w h c k:Nat}(hk:c.testBit k=true):qH w h c k [k] [k] where
 nd:=by simp
 at_:=by simp
 rc:=fun x hx=>by rw[F2]at hx;subst hx;exact .here hk
 sb:=fun x hx=>hx
 cl:=fun x hx hn=>absurd hx hn
theorem qH.len{w h c k:Nat}{G T:List Nat}(hc:c<2^64)(D:qH w h c k G T):G.length<=64:=by have:=length_le_of_subset (l1:=G) (l2:=List.range 64) D.nd fun x hx=>GN.mpr (gh hc (D.rc x hx).in);simpa using this
theorem mR{G:List Nat}{j:Nat}:(gR 0 G).testBit j=true<->j∈G:=by rw[rX];simp
theorem qH.done{w h c k:Nat}{G:List Nat}(D:qH w h c k G []):cU w h c k (gR 0 G):=fun j=>by
 rw[mR];constructor
 ·exact D.rc j
 ·intro r
  induction r with
  |here _=>exact D.at_
  |step _ hn hc ih=>exact D.cl _ ih (by simp) _ hn hc
structure rD(w h c k x:Nat)(G T:List Nat)(ns:List Nat):Prop where
 nd:G.Nodup
 at_:k∈G
 rc:∀y∈G,Rch w h c k y
 sb:∀y∈T,y∈G
 xG:x∈G
 cl:∀y∈G,¬y∈T->y≠x->∀i∈ei w h y,c.testBit i=true->i∈G
 cx:∀i∈ns,c.testBit i=true->i∈G
theorem qH.mid{w h c k x:Nat}{G T:List Nat}(D:qH w h c k G (T++[x])):rD w h c k x G T [] where
 nd:=D.nd
 at_:=D.at_
 rc:=D.rc
 sb:=fun y hy=>D.sb y (GC _ hy)
 xG:=D.sb x (by simp)
 cl:=fun y hy hn hne=>D.cl y hy (fun z=>(Gj.mp z).elim hn fun z=>hne (F2.mp z))
 cx:=fun i hi=>by simp at hi
theorem rD.push{w h c k x i:Nat}{G T ns:List Nat}(D:rD w h c k x G T ns)(hi:c.testBit i=true)(hn:i∈ei w h x)(hG:¬i∈G):rD w h c k x (G++[i]) (T++[i]) (ns++[i]) where
 nd:=by rw[List.nodup_append];refine⟨D.nd,by simp,fun a ha b hb e=>?_⟩;rw[F2]at hb;subst hb;subst e;exact hG ha
 at_:=GC _ D.at_
 rc:=fun y hy=>by
  rcases Gj.mp hy with z|z
  ·exact D.rc y z
  ·rw[F2]at z;subst z;exact .step (D.rc x D.xG) hn hi
 sb:=fun y hy=>by
  rcases Gj.mp hy with z|z
  ·exact GC _ (D.sb y z)
  ·exact Gx _ z
 xG:=GC _ D.xG
 cl:=fun y hy hT hne j hj hcj=>by
  rcases Gj.mp hy with z|z
  ·exact GC _ (D.cl y z (fun q=>hT (GC _ q)) hne j hj hcj)
  ·exact absurd (Gx _ z) hT
 cx:=fun j hj hcj=>by
  rcases Gj.mp hj with z|z
  ·exact GC _ (D.cx j z hcj)
  ·exact Gx _ z
theorem rD.skip{w h c k x i:Nat}{G T ns:List Nat}(D:rD w h c k x G T ns)(hi:c.testBit i=true->i∈G):rD w h c k x G T (ns++[i]) where
 nd:=D.nd
 at_:=D.at_
 rc:=D.rc
 sb:=D.sb
 xG:=D.xG
 cl:=D.cl
 cx:=fun j hj hcj=>by
  rcases Gj.mp hj with z|z
  ·exact D.cx j z hcj
  ·rw[F2]at z;subst z;exact hi hcj
theorem rD.done{w h c k x:Nat}{G T:List Nat}(D:rD w h c k x G T (ei w h x)):qH w h c k G T where
 nd:=D.nd
 at_:=D.at_
 rc:=D.rc
 sb:=D.sb
 cl:=fun y hy hT i hi hc=>by
  by_cases e:y=x
  ·subst e;exact D.cx i hi hc
  ·exact D.cl y hy hT e i hi hc
theorem cU.to_closed{w h c r k p:Nat}(hcl:g5 w h c r)(hs:Sub r c)(hk:r.testBit k=true)(a:cU w h c k p):cU w h r k p:=fun j=>by
 rw[a j];constructor
 ·intro x
  induction x with
  |here _=>exact .here hk
  |step _ n e ih=>exact .step ih n (hcl _ _ ih.in n e)
 ·intro x
  induction x with
  |here e=>exact .here (hs _ e)
  |step _ n e ih=>exact .step ih n (hs _ e)
end LM
namespace L2
open PySem PySem.Spec PyProof.Rows
def Cx2(o o':Obj):Prop:=∀vs,o.data=.fields vs->∃vs',o'.data=.fields vs'/\vs'[2]?=vs[2]?
theorem Cx2.refl(o:Obj):Cx2 o o:=fun vs e=>⟨vs,e,rfl⟩
def DKp(h h':Heap):Prop:=∀b o,h.get? b=some o->∃o',h'.get? b=some o'/\o'.dict=o.dict/\Cx2 o o'
theorem DKp.refl(h:Heap):DKp h h:=fun _ o e=>⟨o,e,rfl,.refl o⟩
theorem DKp.trans{h h1 h2:Heap}(a:DKp h h1)(b:DKp h1 h2):DKp h h2:=fun x o e=>by obtain⟨o1,e1,d1,c1⟩:=a x o e;obtain⟨o2,e2,d2,c2⟩:=b x o1 e1;refine⟨o2,e2,d2.trans d1,fun vs q=>?_⟩;obtain⟨v1,q1,z1⟩:=c1 vs q;obtain⟨v2,q2,z2⟩:=c2 v1 q1;exact⟨v2,q2,z2.trans z1⟩
theorem DKp.push(h:Heap)(o:Obj):DKp h (h.push o):=fun _ o' e=>⟨o',F0 _ e,rfl,.refl o'⟩
def Ec(f:Obj->Obj):Prop:=∀o,(f o).dict=o.dict/\(f o).isFreed=o.isFreed/\Cx2 o (f o)
theorem DKp.update{f:Obj->Obj}(hf:Ec f)(h:Heap)(a:Addr):DKp h (h.update a f):=fun b o e=>by
 by_cases z:a=b
 ·subst z;obtain⟨_,e2⟩:=Heap.get?_some_iff.mp e;exact⟨f o,G3 f e (by rw[(hf o).2.1];exact e2),(hf o).1,(hf o).2.2⟩
 ·exact⟨o,by rw[GW _ _ z];exact e,rfl,.refl o⟩
inductive bH{α:Type}:Sem α->Prop
 |pure (a:α):bH (.pure a)
 |raise (e:Value):bH (.raise e)
 |unsup (w:String):bH (.unsupported w)
 |rule {t:String} {k:Unit->Sem α}:(∀u,bH (k u))->bH (.rule t k)
 |load {a:Addr} {p:Option Value} {k:Obj->Sem α}:(∀o,bH (k o))->bH (.load a p k)
 |update {a:Addr} {p:Option Value} {f:Obj->Obj} {k:Unit->Sem α}:Ec f->(∀u,bH (k u))->bH (.update a p f k)
 |alloc {o:Obj} {k:Addr->Sem α}:(∀a,bH (k a))->bH (.alloc o k)
 |point {l:List Value} {k:Unit->Sem α}:(∀u,bH (k u))->bH (.point l k)
 |register {a:Addr} {k:Unit->Sem α}:bH (.register a k)
 |stack {k:List (Code×Pos)->Sem α}:(∀l,bH (k l))->bH (.stack k)
theorem bH.wp{α:Type}{M:Model}{Γ:PySem.Ctx}{t:Sem α}(m:bH t):∀{Q:α->Pos->Shared->Prop}{E:Value->Pos->Shared->Prop}{p:Pos}{s:Shared}{h0:Heap},DKp h0 s.heap->Sem.wp M Γ t Q E p s->
  Sem.wp M Γ t (fun a p' s'=>Q a p' s'/\DKp h0 s'.heap) (fun e p' s'=>E e p' s'/\DKp h0 s'.heap) p s:=by
 induction m with
 |pure a=>intro Q E p s h0 d h;exact⟨h,d⟩
 |raise e=>intro Q E p s h0 d h;exact⟨h,d⟩
 |unsup w=>intro Q E p s h0 d h;exact h
 |rule _ ih=>intro Q E p s h0 d h;exact ih () d h
 |load _ ih=>intro Q E p s h0 d h;obtain⟨o,ho,h⟩:=h;exact⟨o,ho,ih o d h⟩
 |update sf _ ih=>intro Q E p s h0 d h;obtain⟨ha,h⟩:=h;exact⟨ha,ih () (d.trans (DKp.update sf _ _)) h⟩
 |alloc _ ih=>intro Q E p s h0 d h;exact ih _ (d.trans (DKp.push _ _)) h
 |point _ ih=>intro Q E p s h0 d h;exact ih () d h
 |register=>intro Q E p s h0 d h;exact h
 |stack _ ih=>intro Q E p s h0 d h;exact ih _ d h
theorem bH.any{α:Type}{M:Model}{A:Around}{t:Sem α}{Q:α->Shared->Prop}{E:Value->Shared->Prop}{s:Shared}(m:bH t)(h:wpAny M A t Q E s):wpAny M A t (fun a s'=>Q a s'/\DKp s.heap s'.heap) (fun e s'=>E e s'/\DKp s.heap s'.heap) s:=
 fun Γ p hΓ=>m.wp (DKp.refl _) (h Γ p hΓ)
theorem bH.bind{α β:Type}{t:Sem α}{f:α->Sem β}(m:bH t)(h:∀a,bH (f a)):bH (t>>= f):=by
 show bH (Sem.bind t f)
 induction m with
 |pure a=>exact h a
 |raise e=>exact .raise e
 |unsup w=>exact .unsup w
 |rule _ ih=>exact .rule ih
 |load _ ih=>exact .load ih
 |update sf _ ih=>exact .update sf ih
 |alloc _ ih=>exact .alloc ih
 |point _ ih=>exact .point ih
 |register=>exact .register
 |stack _ ih=>exact .stack ih
theorem uI{i:Nat}{x:Value}(h:i≠2):Ec (Obj.mapFields (·.setIfInBounds i x)):=fun o=>by
 obtain⟨c,d,dt,s⟩:=o;cases dt
 case fields ws=>refine⟨rfl,rfl,fun vs e=>?_⟩;cases e;exact⟨_,rfl,by rw[Array.getElem?_setIfInBounds_ne h]⟩
 all_goals exact⟨rfl,rfl,.refl _⟩
theorem kW (v : Value) (i : Nat) : bH (field v i) := by
  unfold field fieldsOf
  refine bH.bind ?_ fun vs => ?_
  · cases v <;> first
      | exact .unsup _
      | (refine bH.bind (.load fun o => .pure _) fun o => ?_
         split
         · exact .pure _
         · exact .unsup _)
  · split
    · exact .pure _
    · exact .unsup _
theorem kD (v : Value) (i : Nat) (x : Value) (h : i ≠ 2) : bH (setField v i x) := by
  unfold setField updateField
  cases v <;> first
    | exact .unsup _
    | (refine bH.bind (.load fun o => .pure _) fun o => ?_
       split
       · split
         · exact .update (uI h) fun _ => .pure _
         · exact .unsup _
       · exact .unsup _)
theorem cQ(v:Value)(f:Option Addr):bH (setFlight v f):=by
 unfold setFlight;refine bH.bind (kW _ _) fun tb=>?_;split
 ·exact kD _ _ _ (by decide)
 ·exact .pure _
theorem qa(ty:String)(vs:List Value):bH (newFields ty vs):=by
 unfold newFields newObj newObjAsIs;dsimp only;split
 ·exact bH.bind (.unsup _) fun _=>bH.bind (.alloc fun a=>.pure _) fun a=>.pure _
 ·exact bH.bind (.alloc fun a=>.pure _) fun a=>.pure _
theorem kU:bH stack:=.stack fun l=>.pure _
theorem yu(a:Addr):bH (load a):=.load fun o=>.pure _
theorem vf(env:Env)(outer:List Env):bH (behindIsImport env outer):=by
 unfold behindIsImport
 repeat' first
  |exact .pure _
  |exact .unsup _
  |exact kW _ _
  |split
  |refine bH.bind ?_ fun _=>?_
theorem vg:bH underTheClaimsCaller:=bH.bind kU fun _=>.pure _
theorem yw(env:Env)(b:Bool)(l:List Env):bH (keptBack env b l):=by
 unfold keptBack
 repeat' first
  |exact .pure _
  |exact .unsup _
  |exact vg
  |split
  |refine bH.bind ?_ fun _=>?_
theorem p9:∀l:List Env,bH (readyFrames l)
 | []=>.pure _
 |env::outer=>by
  have ih:=p9 outer;unfold readyFrames
  repeat' first
   |exact .pure _
   |exact .unsup _
   |exact yu _
   |exact vf _ _
   |exact yw _ _ _
   |exact ih
   |exact .update (fun o=>⟨rfl,by obtain⟨c,d,dt,s⟩:=o;cases dt<;>rfl,fun vs e=>⟨vs,e,rfl⟩⟩) fun _=>.pure _
   |split
   |refine bH.bind ?_ fun _=>?_
   |dsimp only
theorem tU(env:Env):bH (PySem.frameOf env):=by
 unfold PySem.frameOf frameEnvs;refine bH.bind (bH.bind kU fun _=>.pure _) fun l=>bH.bind ?_ fun r=>?_
 ·generalize List.dropWhile _ l=es;cases es with
  |nil=>exact .pure _
  |cons e es=>exact bH.bind (p9 _) fun _=>.pure _
 ·split
  ·exact .pure _
  ·exact .unsup _
theorem wF(f:Addr)(b:Bool):bH (entryPlaceOf f b):=by
 unfold entryPlaceOf;refine bH.bind kU fun l=>?_;split
 ·exact .pure _
 ·exact .pure _
theorem jT(v:Value)(env:Env):bH (noteFrame v env):=by
 unfold noteFrame EntryCells.newEntry
 repeat' first
  |exact .pure _
  |exact .unsup _
  |exact kW _ _
  |exact kD _ _ _ (by decide)
  |exact tU _
  |exact wF _ _
  |exact qa _ _
  |split
  |refine bH.bind ?_ fun _=>?_
  |dsimp only
theorem fw(env:Env)(v:Value):bH (leaving env v):=bH.bind (jT _ _) fun _=>cQ _ _
def CtN(h:Heap)(x:Addr):Prop:=∃o vs,h.get? x=some o/\o.data=.fields vs/\vs[2]?=some .none
theorem CtN.kp{h h':Heap}{x:Addr}(c:CtN h x)(k:DKp h h'):CtN h' x:=by obtain⟨o,vs,e,q,z⟩:=c;obtain⟨o',e',_,r⟩:=k x o e;obtain⟨vs',q',z'⟩:=r vs q;exact⟨o',vs',e',q',z'.trans z⟩
theorem bN.there{P:Program}{w:World}{H:Hp}{h:Heap}{a:Addr}:∀{o:HO},bN P w H h a o->∃ob,h.get? a=some ob
 | .lst _,⟨_,_,_,_,e⟩=>⟨_,e⟩
 | .tup _,⟨_,_,_,o,e,_⟩=>⟨o,e⟩
 | .dK _,⟨_,_,_,_,o,_,_,e,_⟩=>⟨o,e⟩
 | .dT _,⟨_,_,_,_,o,_,_,e,_⟩=>⟨o,e⟩
 | .set _ _,x=>let ⟨o,e,_⟩:=(show h.SetOf (intKind P w) a _ _ from x).objOf;⟨o,e⟩
 | .ins _ _ _,⟨_,_,_,e,_⟩=>⟨_,e⟩
 | .own _,⟨o,e⟩=>⟨o,e⟩
 | .xd _,⟨_,n,_⟩=>by obtain⟨o,e,_⟩:=si n;exact⟨o,e⟩
 | .rng _ _,⟨_,_,_,e⟩=>⟨_,e⟩
 | .frz _ _,⟨e,_⟩=>⟨_,e⟩
 | .tbl _,e=>⟨_,e⟩
 | .met _ _,e=>⟨_,e⟩
 | .ext _,⟨_,⟨o,e⟩,_⟩=>⟨o,e⟩
section
variable{X:Cx}{pins:List (Addr×Obj)}{σ:St}{H:Hp}{s:Shared}
theorem Inv.untr(I:Inv X pins σ H s){b:Addr}(e:s.heap.get? b=none):H b=none:=by
 cases q:H b with
 |none=>rfl
 |some o=>obtain⟨ob,z⟩:=(I.hok b o q).there;rw[e]at z;cases z
theorem Inv.flown{h':Heap}{ch:List Addr}{t':Nat}(I:Inv X pins σ H s)
  (hch:∀b∈ch,X.s₀.heap.get? b=none/\H b=none/\b≠X.env.locals/\(∀x c,X.env.cells.lookup x=some c->c≠b)/\∀p∈X.pn++pins,p.1≠b)
  (keep:∀b o,b∉frs X.stack->b∉ch->s.heap.get? b=some o->h'.get? b=some o) (slot:∀b o,b∈frs X.stack->s.heap.get? b=some o->∃sl,h'.get? b=some {o with slots:=sl}):
  Inv X pins σ H {s with heap:=h',toks:=t'}:=by
 have any:∀b o,b∉ch->s.heap.get? b=some o->∃sl,h'.get? b=some {o with slots:=sl}:=fun b o hc e=>by
  by_cases hb:b∈frs X.stack
  ·exact slot b o hb e
  ·exact⟨o.slots,keep b o hb hc e⟩
 have nch:∀b o,X.s₀.heap.get? b=some o->b∉ch:=fun b o e hb=>by rw[(hch b hb).1]at e;cases e
 have nst:∀b o,X.s₀.heap.get? b=some o->b∉X.fs->b∉frs X.stack:=fun b o e hb z=>by
  rcases Gg.mp (I.stkSub b z)with q|q
  ·rw[q]at e;exact absurd (F5 (Gf e) I.ok.above) (HF _)
  ·exact hb q
 have cellK:∀x c,X.env.cells.lookup x=some c->∀v,s.heap.IsCell c v->h'.IsCell c v:=fun x c e v ⟨o,ho,hd⟩=>by obtain⟨sl,q⟩:=any c o (fun z=>(hch c z).2.2.2.1 x c e rfl) ho;exact⟨_,q,hd⟩
 refine⟨I.ok,I.os,I.bare,⟨fun b o e n hb hx=>?_,fun b o e n hb hx=>?_,I.base.free,fun b o e hx=>?_,I.base.tups,I.base.frzs,I.base.tbls⟩,?_,fun x c e=>?_,I.free,I.freeC,fun p hp=>?_,fun b u e=>?_,I.len⟩
 ·exact keep b o (nst b o e hb) (nch b o e) (I.base.keep b o e n hb hx)
 ·obtain⟨sl,e1⟩:=I.base.slot b o e n hb hx;obtain⟨sl2,e2⟩:=any b _ (nch b o e) e1;exact⟨sl2,e2⟩
 ·obtain⟨o',e1⟩:=I.base.there b o e hx;obtain⟨sl,e2⟩:=any b o' (nch b o e) e1;exact⟨_,e2⟩
 ·obtain⟨m,⟨o,es,ep,ho,r⟩,hl⟩:=I.loc;obtain⟨sl,hL⟩:=any _ o (fun z=>(hch _ z).2.2.1 rfl) ho;refine⟨m,⟨_,es,ep,hL,r⟩,fun i x v e1 e2 e3=>?_⟩;obtain⟨u,r',l⟩:=hl i x v e1 e2 e3;refine⟨u,r',?_⟩;rcases l with l|⟨k,c,e,z⟩
  ·exact .inl l
  ·exact .inr ⟨k,c,e,cellK x c e _ z⟩
 ·obtain⟨v,z⟩:=I.cell x c e;exact⟨v,cellK x c e v z⟩
 ·obtain⟨e,n,ne,nf,d⟩:=I.pin p hp;refine⟨keep p.1 p.2 (fun z=>?_) (fun z=>(hch _ z).2.2.2.2 p hp rfl) e,n,ne,nf,d⟩;rcases Gg.mp (I.stkSub _ z)with q|q
  ·exact ne q
  ·exact nf q
 ·refine(I.hok b u e).stay (fun c v hc q=>?_) (fun _ q=>q) fun _ _ q=>q;have hcu:∃y,H c=some y:=by
   rcases hc with z|z
   ·rw[z];exact⟨u,e⟩
   ·exact⟨_,z⟩
  obtain⟨y,hy⟩:=hcu;refine keep c v (fun z=>?_) (fun z=>?_) q
  ·rw[I.stkFree c z]at hy;cases hy
  ·rw[(hch c z).2.1]at hy;cases hy
def Trc(h:Heap)(x T:Addr)(cls a0:Value):Prop:=
 ∃oe vs oT ts,h.get? x=some oe/\(oe.cls=cls/\vs[0]?=some a0)/\oe.data=.fields vs/\vs[1]?=some (.ref T)/\T≠x/\h.get? T=some oT/\oT.data=.fields ts/\ts[3]?=some .none
theorem ue{x T:Addr}{cls a0:Value}(I:Inv X pins σ H s)(t:Trc s.heap x T cls a0):Heap.FlyingW (PySem.W.hideAll s.heap (frs X.stack++[x,T])) X.stack x cls a0 s.heap:=by obtain⟨oe,vs,oT,ts,a1,a2,a3,a4,a5,a6,a7,a8⟩:=t;refine⟨fun b o q=>PySem.W.of_hideAll _ q,HL _ (by simp),PySem.W.funFrames_hide I.stack fun env he a ha=>GC _ (List.mem_filterMap.mpr ⟨env,he,ha⟩),oe,vs,T,oT,ts,a1,a2,a3,a4,HL _ (by simp),a5,a6,a7,a8⟩
noncomputable def CXe(P:Program)(w:World):CXT:=fun outer H s E e s'=>∃x C T H' a0,e=.ref x/\s'.os=s.os/\AllBare s'.gens/\Un (frs outer) [] H H' s.heap s'.heap/\HOk P w H' s'.heap/\
 s.heap.get? x=none/\s.heap.get? T=none/\H' x=none/\H' T=none/\Trc s'.heap x T (.ref C) a0/\CtN s'.heap x/\E (.ref C) none H'
theorem Inv.landed{x T:Addr}{h':Heap}{t':Nat}(I:Inv X pins σ H s)(n1:X.s₀.heap.get? x=none)(n2:X.s₀.heap.get? T=none)(u1:H x=none)(u2:H T=none)
  (g1:∀p∈X.pn++pins,p.1≠x) (g2:∀p∈X.pn++pins,p.1≠T) (c1:∀y c,X.env.cells.lookup y=some c->c≠x) (c2:∀y c,X.env.cells.lookup y=some c->c≠T) (l1:x≠X.env.locals) (l2:T≠X.env.locals)
  (st:(PySem.W.hideAll s.heap (frs X.stack++[x,T])).StaysIn h') (us:s.heap.UpToSlots h'):Inv X pins σ H {s with heap:=h',toks:=t'}:=by
 refine I.flown (ch:=[x,T]) (fun b hb=>?_) (fun b o hb hc e=>st b o (PySem.W.hideAll_get _ e fun z=>?_)) (fun b o hb e=>?_)
 ·rcases Gg.mp hb with q|q
  ·subst q;exact⟨n1,u1,l1,c1,g1⟩
  ·rw[F2]at q;subst q;exact⟨n2,u2,l2,c2,g2⟩
 ·rcases Gj.mp z with q|q
  ·exact hb q
  ·exact hc q
 ·obtain⟨_,o',ho,hnf⟩:=I.stack.mem hb;rw[e]at ho;cases ho;exact us b o e hnf
theorem Inv.apart{x:Addr}(I:Inv X pins σ H s)(hex:X.ex=[])(n:s.heap.get? x=none):
  X.s₀.heap.get? x=none/\(∀p∈X.pn++pins,p.1≠x)/\(∀y c,X.env.cells.lookup y=some c->c≠x)/\x≠X.env.locals:=by
 refine⟨?_,fun p hp z=>?_,fun y c e z=>?_,fun z=>?_⟩
 ·cases q:X.s₀.heap.get? x with
  |none=>rfl
  |some o=>obtain⟨o',e⟩:=I.base.there x o q (by rw[hex];simp);rw[n]at e;cases e
 ·have:=(I.pin p hp).1;rw[z,n]at this;cases this
 ·obtain⟨v,o,ho,_⟩:=I.cell y c e;rw[z,n]at ho;cases ho
 ·obtain⟨m,⟨o,es,ep,ho,_⟩,_⟩:=I.loc;rw[<-z,n]at ho;cases ho
theorem gG{B h':Heap}{x:Addr}{cls a0:Value}{as:List Addr}(I:Inv X pins σ H s)(hex:X.ex=[])(eB:B=PySem.W.hideAll s.heap (frs X.stack++as))(has:∀b∈as,X.s₀.heap.get? b=none/\H b=none)
  (J:∀b∈frs X.stack,∃o,h'.get? b=some o/\∀vs,o.data≠ .fields vs) (t:h'.TracedW B x cls a0):∃T,Trc h' x T cls a0/\X.s₀.heap.get? T=none/\H T=none:=by
 obtain⟨oe,vs,T,oT,ts,a1,a2,a3,a4,a5,a6,a7,a8,a9⟩:=t;have hid:∀o,s.heap.get? T=some o->T∈as:=fun o e=>by
  by_cases hm:T∈frs X.stack++as
  ·rcases Gj.mp hm with q|q
   ·obtain⟨o',e',nf⟩:=J T q;rw[a7]at e';cases e';exact absurd a8 (nf ts)
   ·exact q
  ·rw[eB,PySem.W.hideAll_get _ e hm]at a5;cases a5
 refine⟨T,⟨oe,vs,oT,ts,a1,a2,a3,a4,a6,a7,a8,a9⟩,?_,?_⟩
 ·cases q:X.s₀.heap.get? T with
  |none=>rfl
  |some o=>obtain⟨o',e⟩:=I.base.there T o q (by rw[hex];simp);rw[(has T (hid o' e)).1]at q;cases q
 ·cases q:H T with
  |none=>rfl
  |some o=>obtain⟨o',e⟩:=(I.hok T o q).there;rw[(has T (hid o' e)).2]at q;cases q
end
section
variable{P:Program}{w:World}{K:Frag}{mg:Str->Option Value}{base:Heap}{N:List Str}{qual:Str}{scope:Scope}{f:Addr}{cd:Value}{A:Around}{outer:List Env}{s:Shared}{H:Hp}{E:XK}
 {pins:List (Addr×Obj)} {σ:St}
theorem C6{x T C:Addr}{a0:Value}{H2 H':Hp}{s2 s':Shared}(I2:Inv (cT (CXe P w) P w K mg base N qual scope f cd A outer s H E) pins σ H2 s2)(n1:s2.heap.get? x=none)(n2:s2.heap.get? T=none)
  (I:Inv (cT (CXe P w) P w K mg base N qual scope f cd A outer s H E) pins σ H' s') (t:Trc s'.heap x T (.ref C) a0) (u1:H' x=none) (u2:H' T=none) (ct:CtN s'.heap x) (e:E (.ref C) none H'):
  (cT (CXe P w) P w K mg base N qual scope f cd A outer s H E).xe (.ref x) s':=by
 obtain⟨p1,p2,p3,p4⟩:=I2.apart rfl n1;obtain⟨r1,r2,r3,r4⟩:=I2.apart rfl n2;refine Gy ((fw _ _).any (wpAny_leaves_onW (Q:=fun _ s4=>∃h',s4={s' with heap:=h'}/\Heap.FlyingW (PySem.W.hideAll s'.heap (frs (cT (CXe P w) P w K mg base N qual scope f cd A outer s H E).stack++[x,T])) outer x (.ref C) a0 h'/\s'.heap.UpToSlots h') (outer:=outer) I.ok.frames rfl (ue I t) fun h' fl us=>⟨h',rfl,fl,us⟩)) (fun _ s4 z=>?_) fun _ _ z=>z.1;obtain⟨⟨h',rfl,fl,us⟩,dk⟩:=z;have J:=I.landed (t':=s'.toks) p1 r1 u1 u2 p2 r2 p3 r3 p4 r4 fl.1 us
 obtain⟨T',t',q1,q2⟩:=gG I rfl rfl (as:=[x,T]) (fun b hb=>by
  rcases Gg.mp hb with q|q
  ·subst q;exact⟨p1,u1⟩
  ·rw[F2]at q;subst q;exact⟨r1,u2⟩) (fun b hb=>by obtain⟨_,o,ho,nf⟩:=J.stack.mem hb;exact⟨o,ho,nf⟩) fl.2.2.2
 exact⟨x,C,T',H',a0,rfl,J.os,J.bare,J.base,J.hok,p1,q1,u1,q2,t',ct.kp dk,e⟩
theorem xg{e C:Addr}{vs:List Value}{h':Heap}{H1:Hp}{s1:Shared}(I:Inv (cT (CXe P w) P w K mg base N qual scope f cd A outer s H E) pins σ H1 s1)(hx:Heap.MadeExcOf s1.heap h' e (.ref C) vs)(ee:E (.ref C) none H1):
  (cT (CXe P w) P w K mg base N qual scope f cd A outer s H E).xe (.ref e) {s1 with heap:=h'}:=by
 obtain⟨p1,p2,p3,p4⟩:=I.apart rfl hx.new
 refine Gy ((fw _ _).any (wpAny_leaves_madeW (Q:=fun _ s4=>∃h'' t,s4={s1 with heap:=h''}/\Heap.FlyingW (PySem.W.hideAll s1.heap (frs (envOfC qual scope s.heap.objs.size f cd::outer)++[])) outer e (.ref C) (.ref t) h''/\Heap.UpToSlots h' h'')
  (base:=PySem.W.hideAll s1.heap (frs (envOfC qual scope s.heap.objs.size f cd::outer)++[])) (h:=s1.heap) (outer:=outer) I.ok.frames rfl (fun b o q=>PySem.W.of_hideAll _ q) (PySem.W.funFrames_hide I.stack fun env he a ha=>GC _ (List.mem_filterMap.mpr ⟨env,he,ha⟩)) hx fun h'' t fl _ _ us=>⟨h'',t,rfl,fl,us⟩)) (fun _ s4 z=>?_) fun _ _ z=>z.1
 obtain⟨⟨h'',t,rfl,fl,us⟩,dk⟩:=z;obtain⟨tt,ht,_,_⟩:=hx.there;have J:Inv (cT (CXe P w) P w K mg base N qual scope f cd A outer s H E) pins σ H1 {s1 with heap:=h'',toks:=s1.toks}:=I.flown (ch:=[]) (fun _ z=>nomatch z)
  (fun b o hb _ e'=>fl.1 b o (PySem.W.hideAll_get _ e' fun z=>by
   rcases Gj.mp z with q|q
   ·exact hb q
   ·exact absurd q (by simp))) (fun b o hb e'=>by
  obtain⟨_,o',ho,hnf⟩:=I.stack.mem hb;rw[e']at ho;cases ho
  exact us b o (hx.keeps b o e') hnf)
 obtain⟨T',t',q1,q2⟩:=gG I rfl rfl (as:=[]) (fun _ z=>nomatch z) (fun b hb=>by obtain⟨_,o,ho,nf⟩:=J.stack.mem hb;exact⟨o,ho,nf⟩) fl.2.2.2;exact⟨e,C,T',H1,_,rfl,J.os,J.bare,J.base,J.hok,p1,q1,I.untr hx.new,q2,t',CtN.kp ⟨_,_,ht,rfl,rfl⟩ dk,ee⟩
theorem BK{E':XK}(h:∀C o H,E' C o H->E C o H):Passes (CXe P w) (cT (CXe P w) P w K mg base N qual scope f cd A outer s H E) E':=by rintro pins σ H2 s2 e s' I2 ⟨x,C,T,H',a0,rfl,os,bare,un,hok,n1,n2,u1,u2,t,ct,ee⟩;exact C6 I2 n1 n2 (I2.call' (ch:=[]) os un hok bare (fun _ z=>nomatch z)) t u1 u2 ct (h _ _ _ ee)
end
structure DfE(P:Program)(w:World)(K:Frag)(mg:Str->Option Value)(base:Heap)(k:Nat)(x:Str)(ps:List Str)(sp:Sp):Prop where
 ex:∃f fd,ji P w K mg base (CXe P w) k f fd ps sp/\Binds K fd ps []/\mg x=some (.ref f)/\keepIn K (.ref f)=true
theorem Tx.dfE{P:Program}{w:World}{K:Frag}{mg:Str->Option Value}{base:Heap}{x:Str}{st:Stmt}{N ps:List Str}{k:Nat}{sp:Sp}(T:Tx K mg x st ps)(S:aD N ps (aq st))
  (len:∀vs H Q E,sp vs H Q E->vs.length=ps.length)
  (hbody:∀(f:Addr)(cdv:Value)(A:Around)(outer:List Env)(s:Shared)(H:Hp)(vs:List V)(Q:VK)(E:XK),cb k (A.deeper (envOfC x (aq st) s.heap.objs.size f cdv))->sp vs H Q E->
   ∃t,PSs (cT (CXe P w) P w K mg base N x (aq st) f cdv A outer s H E) (bB st) t/\t {nx:=fun _ H'=>Q .non H',rt:=Q} (start N vs) H):DfE P w K mg base (k+1) x ps sp:=by
 obtain⟨f,fd,F,b,hm⟩:=T.ex;obtain⟨oc,od,kV,doc,pm,an,cdv,ct,osl,rfl,lk,hcd⟩:=id F.ex;exact⟨f,_,vq lk hcd S len fun A outer s H vs Q E hr h=>hbody f cdv A outer s H vs Q E hr h,b,hm,F.kp⟩
abbrev vErr:List Value:=[.type "ValueError",.type "Exception",.type "BaseException",.type "object"]
structure jN(K:Frag)(mg:Str->Option Value)(x:Str)(C:Addr):Prop where
 mg:mg x=some (.ref C)
 ok:PySem.W.excIn K C vErr "ValueError.__new__"=true
theorem iI{K:Frag}{h:Heap}{C:Addr}(X:K.In h)(z:PySem.W.excIn K C vErr "ValueError.__new__"=true):
  ∃tl N nm qn bs hd sn sub ab col dd k0 k1 k2 k3 k5 mN,h.get? C=some (excClassObj nm qn C N bs tl hd sn sub ab col dd k0 k1 k2 k3 k5 "ValueError.__new__")/\h.Ns N mN/\mN "__init__"=none/\OwnTail h vErr tl/\∀b r,mroIn K C b=some r->(Value.ref C::tl).contains b=r:=by
 unfold PySem.W.excIn at z;split at z
 case h_2=>cases z
 case h_1 dd cd sl ho=>
  split at z
  case h_2=>cases z
  case h_1 C' tl k0 k1 k2 k3 n k5 hm hs=>
   rw[G8,G8,G8,G8,G8,HC,HC,HC]at z;obtain⟨⟨⟨⟨⟨z1,z2⟩,z3⟩,z4⟩,z5⟩,z6⟩:=z;subst z1;subst z2;have z3':cd.hasDel=false:=(by simpa using z3);obtain⟨nm,bs,mro,ns,qn,hd,sn,sub,ab,col,del⟩:=cd;dsimp only at hm z3' z5 z6;subst hm;subst z3';obtain rfl:sl= #[k0,k1,k2,k3,some (.builtin "ValueError.__new__"),k5]:=by rw[<-hs]
   exact⟨tl,ns,nm,qn,bs,hd,sn,sub,ab,col,dd,k0,k1,k2,k3,k5,_,X _ _ ho,.of_isNs (PySem.W.isNs_of_in X z5),PySem.W.nsMap_none_of_in X z5 z6,PySem.W.tail_of_in X z4,fun b r hr=>by
    unfold mroIn PySem.W.clsIn at hr;rw[ho]at hr
    simpa using hr⟩
section
variable{X:Cx}{pins:List (Addr×Obj)}{σ:St}{H:Hp}{s:Shared}
def tRz(t:TA)(W:Hp->Prop):TS:=fun _ σ H=>t σ H fun vs H1=>vs.length<=sizeLine/\W H1
theorem uS{c:Str}{C:Addr}{e:Expr}{es:List Expr}{t:TA}{np cpos pos:Pos}{W:Hp->Prop}(Z:jN X.K X.mg c C)(hc:X.calm=true)(ha:PA X (e::es) t)
  (hw:∀pins σ H1 s1 h' x vs,Inv X pins σ H1 s1->Heap.MadeExcOf s1.heap h' x (.ref C) vs->W H1->X.xe (.ref x) {s1 with heap:=h'})
  (hg:Gl X c:=by rfl) (hd:(c==("__debug__":Str))=false:=by decide) (he:starEach (e::es) X.env=(false,eval e X.env)::starEach es X.env:=by rfl) (hpl:(backTo cpos (starEach es X.env)).any (·.1)=false:=by rfl):
  PS X (.Raise (some (.Call (.Name c np) (e::es) [] cpos)) none pos) (tRz t W):=by
 intro pins s σ H D I h;obtain⟨tl,N,nm,qn,bs,hdt,sn,sub,ab,col,dd,k0,k1,k2,k3,k5,mN,hC,hN,hni,T,_⟩:=iI I.ok.mod.kin Z.ok;refine wpAny_Raise_call_subT (C:=C) (nm:=nm) (q:=qn) (N:=N) (bs:=bs) (bm:=tl) (hdct:=hdt) (sn:=sn) (sub:=sub) (ab:=ab) (col:=col) (dd:=dd) (k0:=k0) (k1:=k1) (k2:=k2) (k3:=k3) (k5:=k5)
  PySem.F.excBase_ValueError (mN:=mN) (T.hasType rfl) (I.ok.hd hc) (by rw[he];show(false||(backTo cpos (starEach es X.env)).any (·.1))=false;rw[hpl];rfl) hni (gx I hg Z.mg ⟨rfl,?_⟩ hd)
 have ha':=ha cpos pins s σ H _ I h;rw[he]at ha' ⊢;refine Calls.evalArgs_plain (thn ha' fun us s1 ⟨vs,H1,I1,r1,hl,q⟩=>⟨rfl,by rw[<-r1.length];exact hl,I1.bk _ _ hC,hN.keeps I1.bk,T.keeps I1.bk,fun h' x hx=>?_⟩);exact hw pins σ H1 s1 h' x us I1 hx q
def tCE(sp:Sp)(E:XK)(t:TA):TE:=fun σ H Q=>t σ H fun vs H1=>sp vs H1 Q E
theorem zV{j k:Nat}{x:Str}{ps:List Str}{sp:Sp}{E:XK}{p pos:Pos}{e:Expr}{es:List Expr}{t:TA}(D:DfE X.prog X.w X.K X.mg X.base j x ps sp)(hr:cb k X.A)(hx:Passes (CXe X.prog X.w) X E)(ha:PA X (e::es) t)(hg:Gl X x:=by rfl)(hj:j<=k:=by decide)
  (hdb:(x==("__debug__":Str))=false:=by decide) (he:starEach (e::es) X.env=(false,eval e X.env)::starEach es X.env:=by rfl) (hpl:(backTo pos (starEach es X.env)).any (·.1)=false:=by rfl):
  PE X (.Call (.Name x p) (e::es) [] pos) (tCE sp E t):=by
 obtain⟨f,fd,F,b,hm,kp⟩:=D.ex;have h:=tJ (ds:=[]) (dvs:=[]) (E:=E) (p:=p) (pos:=pos) F (hr.mono hj) hg hm kp b .nil hx ha hdb he hpl;have e1:kg sp [] E t=tCE sp E t:=by funext σ H Q;unfold kg tCE;simp only[GF]
 rw[e1]at h;exact h
end
noncomputable abbrev Cx.marked(X:Cx)(x:Addr):Cx:={X with A:=X.A.mark (some (.ref x)),calm:=false,xe:=fun _ _=>False}
section
variable{X:Cx}{pins:List (Addr×Obj)}{σ:St}{H:Hp}{s:Shared}{x:Addr}
theorem Inv.marked(I:Inv X pins σ H s)(x:Addr):Inv (X.marked x) pins σ H s:=
 ⟨⟨I.ok.mod,I.ok.kind,I.ok.glob,I.ok.blt,I.ok.above,I.ok.inj,I.ok.has,I.ok.cab,(fun z=>by cases z),I.ok.frames,I.ok.stk,I.ok.exf,I.ok.bs,I.ok.bsz,I.ok.noex,I.ok.exfs,I.ok.funs,I.ok.frf⟩,I.os,I.bare,I.base,I.loc,I.cell,I.free,I.freeC,I.pin,I.hok,I.len⟩
theorem Inv.unmarked(ok:X.Ok)(I:Inv (X.marked x) pins σ H s):Inv X pins σ H s:=⟨ok,I.os,I.bare,I.base,I.loc,I.cell,I.free,I.freeC,I.pin,I.hok,I.len⟩
theorem SP.unmarked{D:Ends}{f:Flow}{s':Shared}(ok:X.Ok)(h:SP (X.marked x) pins D f s'):SP X pins D f s':=by
 cases f with
 |next=>obtain⟨σ',H',I,q⟩:=h;exact⟨σ',H',I.unmarked ok,q⟩
 |brk=>obtain⟨σ',H',I,q⟩:=h;exact⟨σ',H',I.unmarked ok,q⟩
 |cont=>obtain⟨σ',H',I,q⟩:=h;exact⟨σ',H',I.unmarked ok,q⟩
 |ret u=>obtain⟨v,σ',H',I,r,q⟩:=h;exact⟨v,σ',H',I.unmarked ok,r,q⟩
end
theorem gU{M:Model}{A:Around}{E:Value->Shared->Prop}{nm nm' q q':Str}{C C' N N':Addr}{bs bs' tl tl':List Value}{hd hd':Bool}{sn sn':List Str}{sub sub':List Value}{ab ab':Bool}{col col':Option Bool}{dd dd':Option Addr}
  {k0 k1 k2 k3 k5 j0 j1 j2 j3 j5:Option Value} {i i':String} {s:Shared} {x:Addr} {oe:Obj} {Q:Bool->Shared->Prop} {r:Bool}
  (hC:s.heap.get? C=some (excClassObj nm q C N bs tl hd sn sub ab col dd k0 k1 k2 k3 k5 i)) (hC':s.heap.get? C'=some (excClassObj nm' q' C' N' bs' tl' hd' sn' sub' ab' col' dd' j0 j1 j2 j3 j5 i')) (he:s.heap.get? x=some oe) (hcls:oe.cls=.ref C)
  (hb:tl'.contains (.type "BaseException")=true) (hr:(Value.ref C::tl).contains (.ref C')=r) (hq:Q r s):wpAny M A (excMatches (.ref x) (.ref C')) Q E s:=by
 obtain⟨h,g,d,t,os⟩:=s;have hcB:(Value.ref C'::tl').contains (.type "BaseException")=true:=by rw[List.contains_cons,hb,Bool.or_true]
 have f:=tc_notTuple;unfold excMatches
 repeat (first|(with_reducible refine G4 he ?_;rw[hcls])|with_reducible refine G4 hC' ?_|(with_reducible refine wpAny_isSubtype_exc hC' ?_;rw[hcB])|(with_reducible refine wpAny_isSubtype_exc hC ?_;rw[hr])|wp_step)
 cases r<;>(wp_walk;exact hq)
section
variable{X:Cx}{pins:List (Addr×Obj)}{σ:St}
structure Hit(K:Frag)(mg:Str->Option Value)(c:Str)(C:Addr):Prop where
 ok:PySem.W.excIn K C vErr "ValueError.__new__"=true
 ex:∃C',jN K mg c C'/\mroIn K C (.ref C')=some true
end
section
variable{X:Cx}{pins:List (Addr×Obj)}{σ:St}{H:Hp}{s:Shared}
theorem Inv.nameGone{h':Heap}{n:Str}{i:Nat}{v:Option Value}{m:Str->Option Value}{t':Nat}(I:Inv X pins σ H s)(hN:X.N.Nodup)(hi:X.N[i]?=some n)
  (hm:∀(i:Nat)(x:Str)(v:V),X.N[i]?=some x->σ[i]?=some (some v)->Vis X.env.scope x->∃u,RelV v u/\Look X.env s.heap m x u)
  (hn:h'.Ns X.env.locals fun x=>if x=n then v else m x) (sb:Heap.SameBut X.env.locals s.heap h'):Inv X pins (σ.set i none) H {s with heap:=h',toks:=t'}:=by
 have k:∀b o,b≠X.env.locals->s.heap.get? b=some o->h'.get? b=some o:=fun b o hb e=>(sb.2 b hb).trans e;have nl:∀b o,X.s₀.heap.get? b=some o->b≠X.env.locals:=fun b o e z=>by rw[z]at e;exact absurd (F5 (Gf e) I.ok.above) (HF _)
 have cellK:∀x c,X.env.cells.lookup x=some c->∀v,s.heap.IsCell c v->h'.IsCell c v:=fun x c e v ⟨o,ho,hd⟩=>⟨o,k c o (I.cne x c e) ho,hd⟩;refine⟨I.ok,I.os,I.bare,⟨fun b o e n' hb hx=>?_,fun b o e n' hb hx=>?_,I.base.free,fun b o e hx=>?_,I.base.tups,I.base.frzs,I.base.tbls⟩,⟨_,hn,fun j x v' e1 e2 e3=>?_⟩,fun x c e=>?_,I.free,I.freeC,fun p hp=>?_,fun b u e=>?_,?_⟩
 ·exact k b o (nl b o e) (I.base.keep b o e n' hb hx)
 ·obtain⟨sl,q⟩:=I.base.slot b o e n' hb hx;exact⟨sl,k b _ (nl b o e) q⟩
 ·obtain⟨o',q⟩:=I.base.there b o e hx;exact⟨o',k b o' (nl b o e) q⟩
 ·have hji:j≠i:=fun z=>by
   subst z
   rw[List.getElem?_set_self (by
    rw[I.len]
    exact(Gr.mp e1).1)]at e2
   cases e2
  rw[HM (Hg hji)]at e2;obtain⟨u,r,l⟩:=hm j x v' e1 e2 e3;have hxn:x≠n:=fun z=>hji (p8 hN e1 (by rw[z];exact hi));refine⟨u,r,?_⟩;rcases l with⟨q1,q2⟩|⟨q,c,e,z⟩
  ·exact .inl ⟨q1,by show(if x=n then v else m x)=some u;rw[F6 hxn];exact q2⟩
  ·exact .inr ⟨q,c,e,cellK x c e _ z⟩
 ·obtain⟨v',z⟩:=I.cell x c e;exact⟨v',cellK x c e v' z⟩
 ·obtain⟨e,a2,ne,a3⟩:=I.pin p hp;exact⟨k p.1 p.2 ne e,a2,ne,a3⟩
 ·refine(I.hok b u e).stay (fun c v' hc q=>k c v' (fun z=>?_) q) (fun _ q=>q) fun _ _ q=>q;subst z;rcases hc with z|z
  ·rw[<-z,I.free]at e;cases e
  ·rw[I.free]at z;cases z
 ·rw[List.length_set];exact I.len
noncomputable def Ends.gone(D:Ends)(i:Nat):Ends:={D with nx:=fun σ H=>D.nx (σ.set i none) H,bk:=fun σ H=>D.bk (σ.set i none) H,ct:=fun σ H=>D.ct (σ.set i none) H}
theorem B7{D:Ends}{f:Flow}{i:Nat}{n:Str}{pos:Pos}{E:Value->Shared->Prop}(hN:X.N.Nodup)(hi:X.N[i]?=some n)(hl:X.env.kindOf n=some .local)(hk:X.env.scope.kind=.function)(h:SP X pins (D.gone i) f s):
  wpAny (model X.prog X.w) X.A (do bindName X.env n .none;unbindBehindTheSuite X.env n pos) (fun _ s'=>SP X pins D f s') E s:=by
 have go:∀{σ':St}{H':Hp}{R:Shared->Prop},Inv X pins σ' H' s->(∀s',Inv X pins (σ'.set i none) H' s'->R s')->wpAny (model X.prog X.w) X.A (do bindName X.env n .none;unbindBehindTheSuite X.env n pos) (fun _ s'=>R s') E s:=fun {σ' H' R} J q=>by obtain⟨m,hn,hm⟩:=id J.loc;refine wpAny_nameGoes_keeps hl hn (by rw[hk];rfl) fun h' v hn' sb=>q _ (J.nameGone hN hi hm hn' sb)
 cases f with
 |next=>obtain⟨σ',H',J,q⟩:=h;exact go J fun s' J'=>⟨_,H',J',q⟩
 |brk=>obtain⟨σ',H',J,q⟩:=h;exact go J fun s' J'=>⟨_,H',J',q⟩
 |cont=>obtain⟨σ',H',J,q⟩:=h;exact go J fun s' J'=>⟨_,H',J',q⟩
 |ret u=>obtain⟨v,σ',H',J,r,q⟩:=h;exact go J fun s' J'=>⟨v,_,H',J',r,q⟩
end
abbrev Bd(n:Nat)(i:Int):Prop:=Builtin.Int.intBits i<=n
theorem Bd.of{n:Nat}{i:Int}(h:i.natAbs<2^n):Bd n i:=intBits_le_iff.mpr h
theorem Bd.lt{n:Nat}{i:Int}(h:Bd n i):i.natAbs<2^n:=intBits_le_iff.mp h
theorem Bd.mono{m n:Nat}{i:Int}(h:Bd m i)(z:m<=n):Bd n i:=GA h z
theorem Bd.le{n:Nat}{i j:Int}(h:Bd n j)(z:i.natAbs<=j.natAbs):Bd n i:=intBits_le_of_natAbs z h
theorem Bd.mul{m n:Nat}{i j:Int}(h:Bd m i)(z:Bd n j):Bd (m+n) (i*j):=intBits_mul_le h z
theorem Bd.add{m n:Nat}{i j:Int}(h:Bd m i)(z:Bd n j):Bd (max m n+1) (i+j):=intBits_add_le h z
theorem Bd.neg{m:Nat}{i:Int}(h:Bd m i):Bd m (-i):=intBits_neg_le h
theorem Bd.log2{n:Nat}{i:Int}(h:Bd n i)(z:n<9000):i.natAbs.log2<9000:=by
 by_cases e:i.natAbs=0
 ·rw[e];decide
 ·rw[Nat.log2_lt e];exact F5 h.lt (GY (by decide) (Nat.le_of_lt z))
section
variable{X:Cx}
theorem cH:OpR X (binaryOp .Mult) (rI (fun i j=>Bd 20000 i/\Bd 20000 j) fun i j=>.int (i*j)):=opI fun _ _ _ _ _ _ _ hc q=>mul_int q (IntMulOk.of_le hc.1 hc.2 (by decide))
theorem rZ:OpR X (binaryOp .FloorDiv) (rI (fun _ j=>j≠0/\Bd 8999 j) fun i j=>.int (i.fdiv j)):=opI fun i j _ _ _ _ _ hc q=>floordiv_int hc.1 q (.inl (PyProof.noPylong_of_log2 (Bd.log2 hc.2 (by decide))))
end
theorem vo(a b:Int):Int.gcd b (a.fmod b)=Int.gcd a b:=by
 have e:=Int.mul_fdiv_add_fmod a b;apply Nat.dvd_antisymm
 ·have h1:=Int.gcd_dvd_left b (a.fmod b);have h2:=Int.gcd_dvd_right b (a.fmod b);refine Int.dvd_gcd ?_ h1;have:=Int.dvd_add (Int.dvd_mul_of_dvd_left (c:=a.fdiv b) h1) h2;rwa[e]at this
 ·have h1:=Int.gcd_dvd_left a b;have h2:=Int.gcd_dvd_right a b;refine Int.dvd_gcd h2 ?_;have e2:a.fmod b=a-b*a.fdiv b:=by omega
  rw[e2];exact Int.dvd_sub h1 (Int.dvd_mul_of_dvd_left h2)
theorem vt(a:Int){b:Int}(h:b≠0):(a.fmod b).natAbs<b.natAbs:=by
 rcases Int.lt_or_gt_of_ne h with z|z
 ·have e:=Int.neg_fmod_neg a b;have h1:=Int.fmod_lt_of_pos (-a) (show 0< -b by omega);have h2:=Int.fmod_nonneg_of_pos (-a) (show 0< -b by omega);omega
 ·have h1:=Int.fmod_lt_of_pos a z;have h2:=Int.fmod_nonneg_of_pos a z;omega
theorem gcd_zero(a:Int):(if a<0 then-a else a)=(Int.gcd a 0:Int):=by rw[Int.gcd_zero_right];split<;>omega
noncomputable def frT(t b:Int):Int:=t / (Int.gcd t b:Int)
noncomputable def frB(t b:Int):Int:=b / (Int.gcd t b:Int)
section
variable{t b p q:Int}
theorem Ci(t b:Int):frT t b*(Int.gcd t b:Int)=t:=Int.ediv_mul_cancel (Int.gcd_dvd_left t b)
theorem AF(t b:Int):frB t b*(Int.gcd t b:Int)=b:=Int.ediv_mul_cancel (Int.gcd_dvd_right t b)
theorem iG(h:0<b):(0:Int)<(Int.gcd t b:Int):=by have:=Int.gcd_pos_of_ne_zero_right t (b:=b) (by omega);omega
theorem oH(h:0<b):0<frB t b:=by
 have e:=AF t b;have g:=iG (t:=t) h;rcases Int.lt_trichotomy (frB t b) 0 with z|z|z
 ·have:=Int.mul_neg_of_neg_of_pos z g;omega
 ·rw[z]at e;omega
 ·exact z
theorem AE(h:0<b):Int.gcd (frT t b) (frB t b)=1:=by
 have g:=iG (t:=t) h;have e1:=congrArg Int.natAbs (Ci t b);have e2:=congrArg Int.natAbs (AF t b);rw[Int.natAbs_mul,Int.natAbs_natCast]at e1 e2;have e3:Int.gcd t b=Nat.gcd (frT t b).natAbs (frB t b).natAbs*Int.gcd t b:=by
  conv=>lhs;unfold Int.gcd
  rw[<-e1,<-e2,Nat.gcd_mul_right]
 have:Nat.gcd (frT t b).natAbs (frB t b).natAbs=1:=by
  have g':0<Int.gcd t b:=by omega
  have:=Nat.eq_of_mul_eq_mul_right g' (show Nat.gcd (frT t b).natAbs (frB t b).natAbs*Int.gcd t b=1*Int.gcd t b by omega);exact this
 exact this
theorem AD(t b:Int):frT t b*b=frB t b*t:=by
 have e1:=Ci t b;have e2:=AF t b;have a1:frT t b*b=frT t b*(frB t b*(Int.gcd t b:Int)):=by rw[e2]
 have a2:frB t b*t=frB t b*(frT t b*(Int.gcd t b:Int)):=by rw[e1]
 rw[a1,a2];exact Int.mul_left_comm _ _ _
theorem AS{p q p' q':Int}(h1:Int.gcd p q=1)(h2:Int.gcd p' q'=1)(hq:0<q)(hq':0<q')(e:p*q'=q*p'):p=p'/\q=q':=by
 have en:p.natAbs*q'.natAbs=q.natAbs*p'.natAbs:=by rw[<-Int.natAbs_mul,e,Int.natAbs_mul]
 have c1:Nat.Coprime p.natAbs q.natAbs:=h1;have c2:Nat.Coprime p'.natAbs q'.natAbs:=h2;have d1:q.natAbs∣q'.natAbs:=c1.symm.dvd_of_dvd_mul_left (by rw[en];exact Nat.dvd_mul_right _ _);have d2:q'.natAbs∣q.natAbs:=c2.symm.dvd_of_dvd_mul_left (by rw[Nat.mul_comm,<-en];exact Nat.dvd_mul_left _ _);have eq:=Nat.dvd_antisymm d1 d2;have eq':q=q':=by omega
 subst eq';refine⟨?_,rfl⟩;rw[Int.mul_comm]at e;exact Int.eq_of_mul_eq_mul_left (by omega) e
theorem Cg(hb:0<b)(hq:0<q)(h:Int.gcd p q=1)(e:p*b=q*t):p=frT t b/\q=frB t b:=by refine AS h (AE hb) hq (oH hb) ?_;have g:=iG (t:=t) hb;have e1:=Ci t b;have e2:=AF t b;refine Int.eq_of_mul_eq_mul_right (a:=(Int.gcd t b:Int)) (by omega) ?_;rw[Int.mul_assoc,e2,Int.mul_assoc,e1];exact e
theorem Bd.frT{n:Nat}(h:Bd n t):Bd n (frT t b):=h.le (Int.natAbs_ediv_le_natAbs _ _)
theorem Bd.frB{n:Nat}(h:Bd n b):Bd n (frB t b):=h.le (Int.natAbs_ediv_le_natAbs _ _)
theorem Bd.gcd{n:Nat}(h:Bd n b)(hb:b≠0):Bd n (Int.gcd t b:Int):=h.le (by
 rw[Int.natAbs_natCast]
 exact Nat.le_of_dvd (by omega) (Nat.gcd_dvd_right t.natAbs b.natAbs))
end
theorem DfE.df{P:Program}{w:World}{K:Frag}{mg:Str->Option Value}{base:Heap}{k:Nat}{x:Str}{ps:List Str}{sp:Sp}(D:DfE P w K mg base k x ps sp):Df P w K mg base k x ps fun vs H Q _=>sp vs H Q E0:=by
 obtain⟨f,fd,F,b,hm,kp⟩:=D.ex;refine⟨f,fd,⟨fun vs H Q E h=>F.len vs H Q E0 h,fun A outer s H args us vs Q E hr e0 hb hv hs=>?_⟩,b,hm,kp⟩;refine codeAny_mono (F.run A outer s H args us vs Q E0 hr e0 hb hv hs) fun z s' hq=>?_;cases z with
 |error e=>obtain⟨x,C,T,H',a0,_,_,_,_,_,_,_,_,_,_,_,h⟩:=hq;exact h.elim
 |ok fl=>cases fl<;>exact hq
noncomputable def kf(mg:Str->Option Value)(x:Str):Value:=(mg x).getD .none
theorem oN{K:Frag}{mg:Str->Option Value}{x:Str}{C:Addr}(Z:jN K mg x C):kf mg x=.ref C:=by unfold kf;rw[Z.mg];rfl
theorem AI{K:Frag}{h:Heap}{mg:Str->Option Value}{x:Str}{C:Addr}(X:K.In h)(G:h.Ns mainGlobals mg)(a:nsIn K mainGlobals x=some (some (.ref C)))
 (b:PySem.W.excIn K C vErr "ValueError.__new__"=true):jN K mg x C:=⟨HD X G a,b⟩
theorem Ax{K:Frag}{mg:Str->Option Value}{x c:Str}{C C':Addr}(Z:jN K mg x C)(Y:jN K mg c C')(m:mroIn K C (.ref C')=some true):Hit K mg c C:=⟨Z.ok,C',Y,m⟩
theorem oB{K:Frag}{h:Heap}{mg:Str->Option Value}{x:Str}(X:K.In h)(G:h.Ns mainGlobals mg)(a:nsIn K mainGlobals x=some none):mg x=none:=GU X G a
theorem B5{K:Frag}{h:Heap}{mg:Str->Option Value}{x:Str}{p:Addr}{d:Option Addr}{its:Array Value}{n:Nat}{sl:Array (Option Value)}{xs:List V}(X:K.In h)(G:h.Ns mainGlobals mg)(a:nsIn K mainGlobals x=some (some (.ref p)))
 (l:K.lookup p=some ⟨.type "tuple",d,.seq its n,sl⟩) (hz:its.size<=sizeLine) (r:Vals xs its.toList):∃p,mg x=some (.ref p)/\∀H,SqT K H p xs:=⟨p,HD X G a,fun _=>.inr ⟨_,its,n,l,rfl,rfl,hz,r⟩⟩
def CG(t b p q:Int):Prop:=0<q/\Int.gcd p q=1/\p*b=q*t
theorem CG.fr{t b p q:Int}(h:CG t b p q)(hb:0<b):p=frT t b/\q=frB t b:=Cg hb h.1 h.2.1 h.2.2
theorem ql{a m:Int}(h:m∣a)(hm:m≠0):a.fdiv m*m=a:=by obtain⟨c,rfl⟩:=h;rw[Int.mul_fdiv_cancel_left c hm,Int.mul_comm]
theorem yB{t b m:Int}(hb:b≠0)(hm:m=if b<0 then-(Int.gcd t b:Int)else(Int.gcd t b:Int)):CG t b (t.fdiv m) (b.fdiv m):=by
 have g:0<Int.gcd t b:=Int.gcd_pos_of_ne_zero_right t hb;have d1:(Int.gcd t b:Int)∣t:=Int.gcd_dvd_left t b;have d2:(Int.gcd t b:Int)∣b:=Int.gcd_dvd_right t b;have hm0:m≠0:=by rw[hm];split<;>omega
 have md:∀{z:Int},(Int.gcd t b:Int)∣z->m∣z:=fun {z} h=>by
  rw[hm];split
  ·exact Int.neg_dvd.mpr h
  ·exact h
 have e1:=ql (md d1) hm0;have e2:=ql (md d2) hm0;have nm:m.natAbs=Int.gcd t b:=by rw[hm];split<;>omega
 refine⟨?_,?_,?_⟩
 ·rcases Int.lt_or_gt_of_ne hb with z|z
  ·have hm':m<0:=(by rw[hm,F8 z];omega);rcases Int.lt_trichotomy (b.fdiv m) 0 with y|y|y
   ·have:=Int.mul_pos_of_neg_of_neg y hm';omega
   ·rw[y]at e2;omega
   ·exact y
  ·have hm':0<m:=(by rw[hm,F6 (by omega)];omega);rcases Int.lt_trichotomy (b.fdiv m) 0 with y|y|y
   ·have:=Int.mul_neg_of_neg_of_pos y hm';omega
   ·rw[y]at e2;omega
   ·exact y
 ·have a1:=congrArg Int.natAbs e1;have a2:=congrArg Int.natAbs e2;rw[Int.natAbs_mul,nm]at a1 a2;have e3:Int.gcd t b=Nat.gcd (t.fdiv m).natAbs (b.fdiv m).natAbs*Int.gcd t b:=by
   conv=>lhs;unfold Int.gcd
   rw[<-a1,<-a2,Nat.gcd_mul_right]
  have:Nat.gcd (t.fdiv m).natAbs (b.fdiv m).natAbs=1:=Nat.eq_of_mul_eq_mul_right g (show Nat.gcd (t.fdiv m).natAbs (b.fdiv m).natAbs*Int.gcd t b=1*Int.gcd t b by omega);exact this
 ·have a1:t.fdiv m*b=t.fdiv m*(b.fdiv m*m):=by rw[e2]
  have a2:b.fdiv m*t=b.fdiv m*(t.fdiv m*m):=by rw[e1]
  rw[a1,a2];exact Int.mul_left_comm _ _ _
theorem A0{i:Int}(h1: -10000000000000000000000000000000000000000000000000000000000000<=i)(h2:i<=10000000000000000000000000000000000000000000000000000000000000):Bd 250 i:=Bd.of (by
 have e:(2:Nat)^250=1809251394333065553493296640760748560207343510400633813116524750123642650624:=by decide
 rw[e]
 omega)
theorem Av{K:Frag}{H:Hp}(x y:Int):eA K H [.int x,.int y] [.int x,.int y]:=.cons (.int _) (.cons (.int _) .nil)
theorem FT(x y:Int):PyData.eqv (.tuple [.int x,.int y]) (.tuple [.int x,.int y])=true:=SeqAt.eqv_refl _ rfl
section
variable{X:Cx}
noncomputable def FG(K:Frag)(neg:Bool):R2:=fun x y H Q=>∃d ds,IsD K H d x/\(IsD K H (.list ds) y\/IsD K H (.tuple ds) y)/\d.canLay0=true/\PyData.canLayAll0 ds=true/\d.depth<=50/\Q (.bl (if neg then !(ds.any fun e=>PyData.eqv e d)else ds.any fun e=>PyData.eqv e d)) H
theorem mS(hu:X.A.units+64<cLine):OpR X (compareOp .NotIn) (FG X.K true):=by
 intro pins s σ H x y v u Q I rx ry h;obtain⟨d,ds,h1,h2,c1,c2,hd,q⟩:=h;obtain⟨as,ra⟩:=IsD.reads I h1 rx;have hm:=Nat.min_le_right (PyData.depthAll ds) d.depth;rcases h2 with h2|h2
 ·obtain⟨bs,rb⟩:=IsD.reads I h2 ry;exact SeqAt.notIn_list_reads rb ra c2 c1 (by omega) (show EP X pins σ Q _ s from⟨.bl _,H,I,rfl,q⟩)
 ·obtain⟨bs,rb⟩:=IsD.reads I h2 ry;exact SeqAt.notIn_tuple_reads rb ra c2 c1 (by omega) (show EP X pins σ Q _ s from⟨.bl _,H,I,rfl,q⟩)
def Bx(K:Frag):V->List V->Hp->VK->Prop:=fun x vs H Q=>∃l xs v d ds j,x=.ref l/\vs=[v]/\H l=some (.lst xs)/\eA K H ds xs/\IsD K H d v/\d.canLay0=true/\PyData.canLayAll0 ds=true/\d.depth<=50/\
 (∃e,ds[j]?=some e/\PyData.eqv e d=true)/\(∀m e,m<j->ds[m]?=some e->PyData.eqv e d=false)/\Q (.int (j:Nat)) H
theorem Aj(hu:X.A.units+64<cLine):MtM X "list.index" (Bx X.K):=by
 intro pins s σ H x vs v us Q I rx rv h;obtain⟨l,xs,v',d,ds,j,rfl,rfl,hH,hds,hd,c1,c2,hdp,⟨e0,he0,ht⟩,hno,q⟩:=h;cases rx;obtain⟨u,rfl,ru⟩:=rv.one;obtain⟨z,its,n,r,hl,e⟩:=I.lstM hH;obtain⟨as,ra⟩:=eA.reads I hds r;obtain⟨bs,rb⟩:=IsD.reads I hd ru;have hm:=Nat.min_le_right (PyData.depthAll ds) d.depth;have mp:=SeqAt.readsAll_map ds its as c2 ra;have jl:j<ds.length:=(Gr.mp he0).1;have jl':j<its.length:=by rw[<-mp,FY]at jl;exact jl
 have at':∀m(hm:m<its.length),ds[m]?=some (SeqAt.readOf s.heap its[m]):=fun m hm=>by rw[<-mp,Gn,Gh hm];rfl
 have sz:(2:Int)^63-1=9223372036854775807:=by decide
 have hz:sizeLine<=9223372036854775807:=by decide
 refine call_meets F.slot_list_index ⟨_,e,rfl⟩ F.entry_list_index (F.args_list_index_2 _ _)
  (SeqAt.list_indexAt l its.toArray n none #[] u (fun y=>PyData.eqv (SeqAt.readOf s.heap y) d) j (by simpa using jl') (by rw[sz];omega) ?_ ?_) ⟨e,?_,?_⟩
 ·have:=at' j jl';rw[he0]at this;show PyData.eqv (SeqAt.readOf s.heap its.toArray[j]) d=true;rw[show its.toArray[j]=its[j]from by simp,<-GB this];exact ht
 ·intro m hm' hmj;have hm2:m<its.length:=by simpa using hm'
  show PyData.eqv (SeqAt.readOf s.heap its.toArray[m]) d=false;rw[show its.toArray[m]=its[m]from by simp];exact hno m _ hmj (at' m hm2)
 ·exact SeqAt.items_eqAt (vs:=its.toArray) (by simpa using ra) rb c2 c1 (by omega)
 ·exact⟨.int (j:Nat),H,I.tok _,⟨_,rfl⟩,q⟩
end
theorem KV.len{kvs:List (Key×V)}{vs:List (Key×Value)}(r:KV kvs vs):kvs.length=vs.length:=Gi r
theorem KV.at:∀{kvs:List (Key×V)}{vs:List (Key×Value)},KV kvs vs->∀{i:Nat}{k:Key}{u:Value},vs[i]?=some (k,u)->∃v,kvs[i]?=some (k,v)
 |_,_,.nil,_,_,_,e=>by simp at e
 |_::_,_::_,.cons r t,0,k,u,e=>by simp at e;subst e;obtain⟨rk,rv⟩:=r;exact⟨_,by simp;exact Prod.ext rk rfl⟩
 |_::_,_::_,.cons r t,i+1,k,u,e=>by obtain⟨v,q⟩:=KV.at t (i:=i) (k:=k) (u:=u) (by simpa using e);exact⟨v,by simpa using q⟩
theorem Bw{P:Program}{w:World}{k:Key}{v:Value}(h:(ba P w).is k v=true):RelV (kV k) v:=by
 rcases bQ (show qi k v=true from h)with⟨i,t,rfl,rfl⟩|⟨x,t,rfl,rfl⟩
 ·exact⟨t,rfl⟩
 ·exact⟨t,rfl⟩
theorem oR{vs:List Value}{ns:List Int}(hI:IntsAre vs ns):Vals (ns.map V.int) vs:=by
 induction hI with
 |nil=>exact .nil
 |cons n t h ih=>exact .cons ⟨t,rfl⟩ (ih)
theorem rG:∀{vs:List Value}{ss:List Str},StrsAre vs ss->Vals (ss.map V.str) vs
 |_,_,.nil=>.nil
 |_,_,.cons x t h=>.cons ⟨t,rfl⟩ (rG h)
theorem iP:∀{ss:List Str}{us:List Value},Vals (ss.map V.str) us->StrsAre us ss
 | [],_,.nil=>.nil
 |x::ss,_,.cons ⟨t,e⟩ h=>by subst e;exact .cons x t (iP h)
section
variable{X:Cx}
theorem qh{P:Program}{w:World}{vs:List (Key×Value)}:∀{kvs:List (Key×V)}{acc:List Value},KV kvs vs->acc.length=kvs.length->(∀(j:Nat)(v:Value),acc[j]?=some v->∃(k:Key)(x:Value),vs[j]?=some (k,x)/\(ba P w).is k v=true)->Vals (kvs.map fun p=>kV p.1) acc:=by
 intro kvs acc r hl hs;have:∀(n:Nat)(kvs:List (Key×V))(acc:List Value),kvs.length=n->acc.length=n->(∀(j:Nat)(v:Value),acc[j]?=some v->∃(k:Key)(x:V),kvs[j]?=some (k,x)/\(ba P w).is k v=true)->Vals (kvs.map fun p=>kV p.1) acc:=by
  intro n
  induction n with
  |zero=>intro kvs acc h1 h2 _;rw[List.length_eq_zero_iff]at h1 h2;subst h1 h2;exact .nil
  |succ n ih=>
   intro kvs acc h1 h2 hs
   match kvs,acc,h1,h2,hs with
   |(k0,x0)::kvs,v0::acc,h1,h2,hs=>obtain⟨k,x,e,z⟩:=hs 0 v0 rfl;simp at e;obtain⟨rfl,rfl⟩:=e;exact .cons (Bw z) (ih kvs acc (by simpa using h1) (by simpa using h2) fun j v e=>by simpa using hs (j+1) v (by simpa using e))
 refine this kvs.length kvs acc rfl hl fun j v e=>?_;obtain⟨k,x,h1,h2⟩:=hs j v e;obtain⟨y,hy⟩:=KV.at r h1;exact⟨k,y,hy,h2⟩
theorem qv(hc:X.calm=true):dU X (.builtin "sorted") (fun xs H Q=>∃(p:Addr)(kvs:List (Key×V))(ns:List Int),xs=[.ref p]/\Rd H p (.dK kvs)/\(kvs.map fun q=>kV q.1)=ns.map V.int/\ns.length<64/\∀(l:Addr)(ns':List Int),H l=none->ns'.Perm ns->ns'.Pairwise (·<=·)->Q (.ref l) (upd H l (.lst (ns'.map V.int)))):=by
 intro pins s σ H xs us Q I r h;obtain⟨p,kvs,ns,rfl,hx,hk,h64,q⟩:=h;obtain⟨u,rfl,ru⟩:=vals1 r;cases ru;have ho:bN X.prog X.w H s.heap p (.dK kvs):=by
  rcases hx with hx|⟨o,hx⟩
  ·exact I.hok p _ hx
  ·exact(I.hok p _ hx).2
 obtain⟨hz,hs,vs,rv,hD⟩:=ho;obtain⟨ep,hat⟩:=hD.dictAt;have hl:=rv.len;have hkl:=congrArg List.length hk;rw[FY,FY]at hkl;refine Calls.call_function_entry kind_sorted plain_sorted entry_sorted (args_sorted1 _) ?_;unfold Builtin.«sorted»;refine FZ (m:=checkCount "sorted" 1 1 _) (F3 ?_);refine FZ (PySem.W.kdu_collect (PySem.W.kdl_dict (knd:=ba X.prog X.w) (kvs:=vs) (ep:=ep) hs) (I.ok.hd hc) hat (by omega) fun h' tk acc hkeep hacc=>?_);have al:acc.toList.length=kvs.length:=by rw[Hj,hacc.1,hl]
 have va:=qh rv al fun j v e=>hacc.2 j v (by rw[<-Hl];exact e);rw[hk]at va;have I1:=I.kept (t':=tk) hkeep;refine FZ (wpAny_newList ?_ (by omega));have gD:(h'.push (seqObj "list" acc.toList.toArray 0)).get? h'.objs.size=some (seqObj "list" acc.toList.toArray 0):=Gm _ rfl;have fr:H h'.objs.size=none:=I1.hok.fresh (F4 _);refine FZ (G9 (wpAny_call_entry slot_list_sort ⟨_,gD,rfl⟩ entry_list_sort (list_sort_tree gD (intsAre_of va) (by omega) fun out ns' hi pm so=>⟨_,rfl,?_⟩) (args_list_sort _)));obtain⟨e,he⟩:=sortedHeap_at (out:=out) gD;have pl':=pm.length_eq;refine F3 ⟨_,rfl,.ref _,_,I1.track (t':=tk) (n:=e) (its:=out.toList) (I1.fpOk (F4 _) fr) (fun b o hb z=>?_) (oR hi) (by rw[FY,Hm];omega) he,rfl,q _ ns' fr pm so⟩;have lt:=Gf z;rw[sortedHeap_old hb (by rw[size_push'];exact Nat.lt_succ_of_lt lt)];exact F0 _ z
theorem qu(hc:X.calm=true):dU X (.builtin "sorted") (fun xs H Q=>∃(p:Addr)(kvs:List (Key×V))(ns:List Str),xs=[.ref p]/\Rd H p (.dK kvs)/\(kvs.map fun q=>kV q.1)=ns.map V.str/\ns.length<64/\∀(l:Addr)(ns':List Str),H l=none->ns'.Perm ns->sortedS ns'=true->Q (.ref l) (upd H l (.lst (ns'.map V.str)))):=by
 intro pins s σ H xs us Q I r h;obtain⟨p,kvs,ns,rfl,hx,hk,h64,q⟩:=h;obtain⟨u,rfl,ru⟩:=vals1 r;cases ru;have ho:bN X.prog X.w H s.heap p (.dK kvs):=by
  rcases hx with hx|⟨o,hx⟩
  ·exact I.hok p _ hx
  ·exact(I.hok p _ hx).2
 obtain⟨hz,hs,vs,rv,hD⟩:=ho;obtain⟨ep,hat⟩:=hD.dictAt;have hl:=rv.len;have hkl:=congrArg List.length hk;rw[FY,FY]at hkl;refine Calls.call_function_entry kind_sorted plain_sorted entry_sorted (args_sorted1 _) ?_;unfold Builtin.«sorted»;refine FZ (m:=checkCount "sorted" 1 1 _) (F3 ?_);refine FZ (PySem.W.kdu_collect (PySem.W.kdl_dict (knd:=ba X.prog X.w) (kvs:=vs) (ep:=ep) hs) (I.ok.hd hc) hat (by omega) fun h' tk acc hkeep hacc=>?_);have al:acc.toList.length=kvs.length:=by rw[Hj,hacc.1,hl]
 have va:=qh rv al fun j v e=>hacc.2 j v (by rw[<-Hl];exact e);rw[hk]at va;have I1:=I.kept (t':=tk) hkeep;refine FZ (wpAny_newList ?_ (by omega));have gD:(h'.push (seqObj "list" acc.toList.toArray 0)).get? h'.objs.size=some (seqObj "list" acc.toList.toArray 0):=Gm _ rfl;have fr:H h'.objs.size=none:=I1.hok.fresh (F4 _);refine FZ (G9 (wpAny_call_entry slot_list_sort ⟨_,gD,rfl⟩ entry_list_sort (list_sort_treeK strKind_oneLt gD (iP va).keysOf (fun v₁ v₂ rest e=>keyKind_strs (by rw[<-e];exact iP va)) (by omega) fun st' hp hs=>⟨_,rfl,?_⟩) (args_list_sort _)));obtain⟨ns',hi,pm,so⟩:=sorted_out_str (iP va) hp hs;obtain⟨e,he⟩:=sortedHeap_at (out:=(arrOf st').map (·.2)) gD;have pl':=pm.length_eq;refine F3 ⟨_,rfl,.ref _,_,I1.track (t':=tk) (n:=e) (its:=((arrOf st').map (·.2)).toList) (I1.fpOk (F4 _) fr) (fun b o hb z=>?_) (rG hi) (by rw[FY,Hm];omega) he,rfl,q _ ns' fr pm so⟩;have lt:=Gf z;rw[sortedHeap_old hb (by rw[size_push'];exact Nat.lt_succ_of_lt lt)];exact F0 _ z
theorem sx(hc:X.calm=true):dU X (.builtin "sum") (fun xs H Q=>∃(p:Addr)(ns:List Int),xs=[.ref p]/\SqL X.K H p (ns.map V.int)/\Q (.int ns.sum) H):=by
 intro pins s σ H xs us Q I r h;obtain⟨p,ns,rfl,hx,q⟩:=h;obtain⟨u,rfl,ru⟩:=vals1 r;cases ru;obtain⟨vs,rv,pl,hz⟩:=I.list hx;have hi:=intsAre_of rv;obtain⟨ys,e⟩:=hi.allInts.items;have hns:ns=ys.toList.map (·.1):=by rw[<-hi.numsOf,<-nums_intItems,<-e]
 have hl:=pl.isList;rw[e]at hl;refine sum_intListG (I.ok.hd hc) hl fun h' tk t' hk=>?_;refine⟨.int ns.sum,H,I.kept hk,⟨t',?_⟩,q⟩;rw[preSum_eq,List.take_of_length_le (by simp),hns]
theorem yR(hc:X.calm=true):dU X (.builtin "max") (fun xs H Q=>∃(p:Addr)(ns:List Int),xs=[.ref p]/\SqL X.K H p (ns.map V.int)/\0<ns.length/\∀m,m∈ns->(∀a,a∈ns->a<=m)->Q (.int m) H):=by
 intro pins s σ H xs us Q I r h;obtain⟨p,ns,rfl,hx,hne,q⟩:=h;obtain⟨u,rfl,ru⟩:=vals1 r;cases ru;obtain⟨vs,rv,pl,hz⟩:=I.list hx;have hi:=intsAre_of rv;obtain⟨ys,e⟩:=hi.allInts.items;have hns:ns=ys.toList.map (·.1):=by rw[<-hi.numsOf,<-nums_intItems,<-e]
 have hsz:0<ys.size:=by have h3:=hne;rw[hns,FY,Hj]at h3;exact h3
 have hl:=pl.isList;rw[e]at hl;refine max_intList (I.ok.hd hc) hl hsz fun v h' tk hv hk=>?_;obtain⟨t,rfl⟩:=intItems_at hv;obtain⟨h1,h2⟩:=argBest_gt (numAt ys) (ys.size-1);refine⟨.int _,H,I.kept hk,⟨t,rfl⟩,q _ ?_ fun a ha=>?_⟩
 ·rw[hns,numAt_eq];exact getD_mem (by rw[FY,Hj];omega)
 ·rw[hns]at ha;obtain⟨j,hj,rfl⟩:=mem_getD ha;rw[FY,Hj]at hj;rw[<-numAt_eq];exact h2 j (by omega)
noncomputable def sX(x:Str)(k:Nat):Str:=⟨(List.replicate k x.cps).foldl (·++·) #[]⟩
theorem uO(x:Str)(k:Nat):(sX x k).length=x.length*k:=by
 have:∀(k:Nat)(a:Array Nat),((List.replicate k x.cps).foldl (·++·) a).size=a.size+x.cps.size*k:=by
  intro k
  induction k with
  |zero=>intro a;simp
  |succ k ih=>intro a;rw[List.replicate_succ,List.foldl_cons,ih,Array.size_append,Nat.mul_succ];omega
 have h:=this k #[];show((List.replicate k x.cps).foldl (·++·) #[]).size=x.cps.size*k;rw[h];simp
theorem BM:OpR X (binaryOp .Mult) (fun x y H Q=>∃z n,x=.str z/\y=.int n/\0<=n/\n<=1000/\z.length<=1000/\Q (.str (sX z n.toNat)) H):=by
 intro pins s σ H x y v u Q I rx ry h;obtain⟨z,n,rfl,rfl,h0,h1,h2,q⟩:=h;obtain⟨t,rfl⟩:=rx;obtain⟨t',rfl⟩:=ry;have hm:z.length*n.toNat<=1000*1000:=Nat.mul_le_mul h2 (by omega);have hs:1000*1000<=sizeLine:=by decide
 refine P.mul_str ?_ (fun h3 h4 h5=>?_) (fun h3 h4=>?_) ?_
 ·rw[Gw (by omega),Gw (by omega)];rfl
 ·have e:=Int.ediv_mul_le ((2:Int)^63-1) (b:=n) (by omega);have:(2:Int)^63-1<((2^63-1) / n+1)*n:=by
   have:=Int.lt_ediv_add_one_mul_self ((2:Int)^63-1) (show 0<n by omega);exact this
  have h6:((2:Int)^63-1) / n<z.length:=h5;have h7:((2:Int)^63-1) / n+1<=1000:=by omega
  have h8:((2^63-1) / n+1)*n<=1000*1000:=by refine Int.le_trans (Int.mul_le_mul_of_nonneg_right h7 h0) ?_;exact Int.mul_le_mul_of_nonneg_left h1 (by decide)
  omega
 ·show decide (z.length*n.toNat>sizeLine)=false;exact Gw (by omega)
 ·by_cases h3:n<1
  ·rw[F8 h3];have e:n=0:=(by omega);subst e;exact⟨by decide,.str (sX z 0),H,I.tok _,⟨_,rfl⟩,q⟩
  ·rw[F6 h3];by_cases h4:(n==1||z.length==0)=true
   ·rw[F8 h4];have e:sX z n.toNat=z:=by
     rw[Bool.or_eq_true,HC,HC]at h4;rcases h4 with h4|h4
     ·subst h4;show(⟨#[]++z.cps⟩:Str)=z;simp
     ·have l0:=uO z n.toNat;rw[h4,Nat.zero_mul]at l0;have e1:(sX z n.toNat).cps= #[]:=Array.eq_empty_of_size_eq_zero l0;have e2:z.cps= #[]:=Array.eq_empty_of_size_eq_zero h4;cases z;cases hr:sX _ _;simp_all
    rw[e]at q;exact⟨.str z,H,I,⟨_,rfl⟩,q⟩
   ·rw[F6 h4];refine⟨?_,.str (sX z n.toNat),H,I.tok _,⟨_,rfl⟩,q⟩;have l0:=uO z n.toNat;show(sX z n.toNat).length<=sizeLine;omega
theorem zr:SlR X (fun x lo hi H Q=>∃z,x=.str z/\z.length<=sizeLine/\Q (.str (Txt.slice z lo hi)) H):=by
 intro pins s σ H x v vl vu lo hi sl Q I rx hs pl pu h;obtain⟨z,rfl,hz,q⟩:=h;obtain⟨t,rfl⟩:=rx;obtain⟨o,ho,hc,hd⟩:=hs;cases pl with
 |none=>
  cases pu with
  |none=>exact⟨"str",_,F.slot_str_getitem.lookup,typeIs_str _ _ _,wpAny_getItem_str_slice (l:=none) (u:=none) (st:=none) ⟨o,ho,hc,hd⟩ rfl (post_val_or_str ⟨GA (Txt.slice_le z _ _) hz,fun t' k=>⟨.str _,H,I.tok _,⟨_,rfl⟩,q⟩⟩)⟩
  |int j uj=>exact⟨"str",_,F.slot_str_getitem.lookup,typeIs_str _ _ _,wpAny_getItem_str_slice (l:=none) (u:=some (j,uj)) (st:=none) ⟨o,ho,hc,hd⟩ rfl (post_val_or_str ⟨GA (Txt.slice_le z _ _) hz,fun t' k=>⟨.str _,H,I.tok _,⟨_,rfl⟩,q⟩⟩)⟩
 |int i ui=>
  cases pu with
  |none=>exact⟨"str",_,F.slot_str_getitem.lookup,typeIs_str _ _ _,wpAny_getItem_str_slice (l:=some (i,ui)) (u:=none) (st:=none) ⟨o,ho,hc,hd⟩ rfl (post_val_or_str ⟨GA (Txt.slice_le z _ _) hz,fun t' k=>⟨.str _,H,I.tok _,⟨_,rfl⟩,q⟩⟩)⟩
  |int j uj=>exact⟨"str",_,F.slot_str_getitem.lookup,typeIs_str _ _ _,wpAny_getItem_str_slice (l:=some (i,ui)) (u:=some (j,uj)) (st:=none) ⟨o,ho,hc,hd⟩ rfl (post_val_or_str ⟨GA (Txt.slice_le z _ _) hz,fun t' k=>⟨.str _,H,I.tok _,⟨_,rfl⟩,q⟩⟩)⟩
end
section
variable{X:Cx}{K:Frag}
theorem BH{es:List Expr}{k:Nat}{t:TGs}{n:Nat}{pos:Pos}(hK:X.K=K)(hc:X.calm=true)(h:PGs X es t)
 (hn:(assignEach es X.env).length=n:=by rfl) (hst:(assignEach es X.env).findIdx? (·.1)=none:=by rfl):PG X (.Tuple es k pos) (Cf K n t):=hK▸tH hc h hn hst
theorem Bf{n m i j:Nat}(hi:i<n)(hj:j<n)(hij:i≠j):∀x σ H R,σ.length=n+m->(∀(k:Nat),k<n->σ[k]?=some none)->Cf K 2 (vp (kF i) (vp (kF j) DV)) x σ H R->
  Cf K 2 (vp (kF i) (vp (kF j) DV)) x σ H fun σ2 H2=>Wk σ σ2/\R σ2 H2:=by
 intro x σ H R _ h0 h;obtain⟨a,xs,e,hq,hl,v,r,e1,v2,r2,e2,e3,h⟩:=h;refine⟨a,xs,e,hq,hl,v,r,e1,v2,r2,e2,e3,⟨by simp,fun k w e'=>?_⟩,h⟩;by_cases hk:k=i
 ·subst hk;rw[h0 _ hi]at e';cases e'
 ·by_cases hk2:k=j
  ·subst hk2;rw[h0 _ hj]at e';cases e'
  ·rw[HM (Hg hk2),HM (Hg hk)];exact e'
end
def Eg(x:Str):Prop:=∀c∈x.cps.toList,97<=c/\c<=122
def FV(x:Str):Prop:=Eg x/\1<=x.length/\x.length<=8
theorem CA(x y:Str):(x++y).length=x.length+y.length:=by show(x.cps++y.cps).size=x.cps.size+y.cps.size;simp
structure jg(k:Nat)(A:Around):Prop where
 dp:A.depth+3*k+5<recursionLimit
 un:A.units+16*k+200<cLine
theorem cb.m{k:Nat}{A:Around}(r:cb k A):jg k A:=⟨r.dp,r.un⟩
theorem jg.mono{j k:Nat}{A:Around}(r:jg k A)(h:j<=k):jg j A:=⟨by have:=r.dp;omega,by have:=r.un;omega⟩
theorem cb.marked{k:Nat}{A:Around}(r:cb k A)(v:Option Value):jg k (A.mark v):=⟨r.dp,r.un⟩
noncomputable abbrev Cx.uncalm(X:Cx):Cx:={X with calm:=false,xe:=fun _ _=>False}
section
variable{P:Program}{w:World}{K:Frag}{mg:Str->Option Value}{base:Heap}
theorem wM{CX:CXT}{N:List Str}{qual:Str}{scope:Scope}{f:Addr}{cd:Value}{A:Around}{outer:List Env}{s s':Shared}{H H':Hp}{E:XK}{pins:List (Addr×Obj)}{σ:St}
  (I:Inv (cT CX P w K mg base N qual scope f cd {A with handled:=none} outer s H E) pins σ H' s') (hf:(A.deeper (envOfC qual scope s.heap.objs.size f cd)).frames=some (envOfC qual scope s.heap.objs.size f cd::outer)):
  Inv (cT CX P w K mg base N qual scope f cd A outer s H E).uncalm pins σ H' s':=
 ⟨⟨I.ok.mod,I.ok.kind,I.ok.glob,I.ok.blt,I.ok.above,I.ok.inj,I.ok.has,I.ok.cab,(fun z=>by cases z),hf,I.ok.stk,I.ok.exf,I.ok.bs,I.ok.bsz,I.ok.noex,I.ok.exfs,I.ok.funs,I.ok.frf⟩,I.os,I.bare,I.base,I.loc,I.cell,I.free,I.freeC,I.pin,I.hok,I.len⟩
end
noncomputable abbrev Sh:=List (Str×Int×Int)
noncomputable def shE(p:Str×Int×Int):PyData:=.tuple [.str p.1,.tuple [.int p.2.1,.int p.2.2]]
noncomputable def shD(S:Sh):PyData:=.tuple (S.map shE)
def ShE(K:Frag)(H:Hp)(v:V)(p:Str×Int×Int):Prop:=∃r q,v=.ref r/\SqT K H r [.str p.1,.ref q]/\SqT K H q [.int p.2.1,.int p.2.2]
def ShT(K:Frag)(H:Hp)(a:Addr)(S:Sh):Prop:=∃vs,SqT K H a vs/\Paired (ShE K H) vs S
def TK(H H':Hp):Prop:=(∀a xs,H a=some (.tup xs)->H' a=some (.tup xs))/\∀a o xs,H a=some (.frz o (.tup xs))->H' a=some (.frz o (.tup xs))
theorem aw.tk{H H':Hp}(s:aw H H'):TK H H':=⟨fun _ _ e=>s _ _ e,fun _ _ _ e=>s _ _ e⟩
theorem TK.trans{H H1 H2:Hp}(a:TK H H1)(b:TK H1 H2):TK H H2:=⟨fun x y e=>b.1 x y (a.1 x y e),fun x o y e=>b.2 x o y (a.2 x o y e)⟩
theorem TK.lst{H:Hp}{D:Addr}{xs:List V}{o:HO}(hD:H D=some (.lst xs)):TK H (upd H D o):=
 ⟨fun _ _ e=>by rw[az (hW e hD (fun z=>nomatch z))];exact e,fun _ _ _ e=>by rw[az (hW e hD (fun z=>nomatch z))];exact e⟩
theorem TK.dK{H:Hp}{D:Addr}{xs:List (Key×V)}{o:HO}(hD:H D=some (.dK xs)):TK H (upd H D o):=
 ⟨fun _ _ e=>by rw[az (hW e hD (fun z=>nomatch z))];exact e,fun _ _ _ e=>by rw[az (hW e hD (fun z=>nomatch z))];exact e⟩
theorem TK.sq{K:Frag}{H H':Hp}{a:Addr}{xs:List V}(t:TK H H')(h:SqT K H a xs):SqT K H' a xs:=by
 rcases h with(h|⟨o,h⟩)|h
 ·exact .inl (.inl (t.1 _ _ h))
 ·exact .inl (.inr ⟨o,t.2 _ _ _ h⟩)
 ·exact .inr h
theorem Paired.imp{α β:Type}{R R':α->β->Prop}(h:∀x y,R x y->R' x y){xs:List α}{ys:List β}(hI:Paired R xs ys):Paired R' xs ys:=by
 induction hI with
 |nil=>exact .nil
 |cons a b ih=>exact .cons (h _ _ a) (ih)
theorem ShE.tk{K:Frag}{H H':Hp}{v:V}{p:Str×Int×Int}(s:TK H H')(h:ShE K H v p):ShE K H' v p:=by obtain⟨r,q,e,h1,h2⟩:=h;exact⟨r,q,e,s.sq h1,s.sq h2⟩
theorem ShE.same{K:Frag}{H H':Hp}{v:V}{p:Str×Int×Int}(s:aw H H')(h:ShE K H v p):ShE K H' v p:=h.tk s.tk
theorem ShT.tk{K:Frag}{H H':Hp}{a:Addr}{S:Sh}(s:TK H H')(h:ShT K H a S):ShT K H' a S:=by obtain⟨vs,e,r⟩:=h;exact⟨vs,s.sq e,Paired.imp (fun _ _=>ShE.tk s) r⟩
theorem Br{K:Frag}{H:Hp}{v:V}{p:Str×Int×Int}(h:ShE K H v p):IsD K H (shE p) v:=by obtain⟨r,q,rfl,h1,h2⟩:=h;exact .tup h1 (.cons (.str _) (.cons (.tup h2 (Av _ _)) .nil))
theorem zv{K:Frag}{H:Hp}{vs:List V}{S:Sh}(hI:Paired (ShE K H) vs S):eA K H (S.map shE) vs:=by
 induction hI with
 |nil=>exact .nil
 |cons a b ih=>exact .cons (Br a) (ih)
theorem ShT.isD{K:Frag}{H:Hp}{a:Addr}{S:Sh}(h:ShT K H a S):IsD K H (shD S) (.ref a):=by obtain⟨vs,e,r⟩:=h;exact .tup e (zv r)
theorem xH:∀(S:Sh),(∀p∈S,PyData.canLay0 (.str p.1)=true)->PyData.canLayAll0 (S.map shE)=true
 | [],_=>rfl
 |p::S,h=>by have h1:=h p (F7 ..);have h2:=xH S fun q hq=>h q (F1 _ hq);show(PyData.canLay0 (shE p)&&PyData.canLayAll0 (S.map shE))=true;rw[h2,Bool.and_true];show(PyData.canLay0 (.str p.1)&&true)=true;rw[h1];rfl
theorem DK{S:Sh}(h:∀p∈S,PyData.canLay0 (.str p.1)=true):(shD S).canLay0=true:=xH S h
theorem xP:∀(S:Sh),PyData.depthAll (S.map shE)<=3
 | []=>by show(0:Nat)<=3;decide
 |p::S=>by
  have h:=xP S;have h2:(shE p).depth<=3:=by show(2:Nat)<=3;decide
  show max _ _<=3;exact Nat.max_le.mpr ⟨h2,h⟩
theorem Eg.lay{x:Str}(h:Eg x):PyData.canLay0 (.str x)=true:=by show x.cps.all (·<0x110000)=true;rw[<-Array.all_toList,List.all_eq_true];intro c hc;have:=h c hc;exact Gp (by omega)
theorem aX{α β:Type}{R:α->β->Prop}:∀{xs:List α}{ys:List β}{i:Nat}{x:α},Paired R xs ys->xs[i]?=some x->∃y,ys[i]?=some y/\R x y
 |_,_,_,_,.nil,e=>by simp at e
 |_,_,0,_,.cons a _,e=>by simp at e;subst e;exact⟨_,rfl,a⟩
 |_,_,i+1,x,.cons _ b,e=>by obtain⟨y,h1,h2⟩:=aX (i:=i) (x:=x) b (by simpa using e);exact⟨y,by simpa using h1,h2⟩
noncomputable abbrev Ws:=List (Str×Int)
noncomputable def ir(ws:Ws):Int:=(ws.map (·.2)).sum
theorem Paired.app{α β:Type}{R:α->β->Prop}{xs xs':List α}{ys ys':List β}(hI:Paired R xs ys):Paired R xs' ys'->Paired R (xs++xs') (ys++ys'):=by
 induction hI with
 |nil=>exact fun h=>h
 |cons a b ih=>exact fun h=>.cons a (ih h)
end L2
namespace L2
theorem oF{t b:Int}(ht:0<t)(hb:0<b):0<frT t b:=by
 have e:=Ci t b;have g:=iG (t:=t) hb;rcases Int.lt_trichotomy (frT t b) 0 with z|z|z
 ·have:=Int.mul_neg_of_neg_of_pos z g;omega
 ·rw[z]at e;omega
 ·exact z
end L2
theorem A4(a:Int):0<=(if a<0 then-a else a):=by split<;>omega
theorem Cb(a b:Int):Int.gcd (if a<0 then-a else a) (if b<0 then-b else b)=Int.gcd a b:=by split<;>split<;>simp
namespace PySem
def oQ(h h':Heap)(e:Addr):Prop:=(∀b ob,h.get? b=some ob->h'.get? b=some ob)/\∃oe,h'.get? e=some oe/\oe.cls=.type "AttributeError"
namespace F
theorem oX:isSubtype (.type "AttributeError") (.type "AttributeError")=pure true:=by rw[isSubtype_type];kernel_rfl
end F
theorem qS{M:Model}{A:Around}{E:Value->Shared->Prop}{s:Shared}{α:Type}{v:Value}{name msg:Str}{Q:α->Shared->Prop}(hh:A.handled=none)(hm:msg.length<=sizeLine)
  (h:∀h' tk e,oQ s.heap h' e->E (.ref e) {s with heap:=h',toks:=tk}):wpAny M A (raiseAttrError v name msg:Sem α) Q E s:=by
 unfold raiseAttrError;refine FZ (wpAny_mkStr (FZ ?_) hm);unfold newExc newTuple;refine FZ (wpAny_newObj_type ?_ (by size_fits));refine FZ (m:=firstArgMember _ _) (wpAny_of_eq (a:=Value.none) (by simp only[firstArgMember];kernel_rfl) ?_);rw[show ∀l,ownMembersOf (.type "AttributeError") l= #[unsetMember,unsetMember]from fun _=>rfl];refine wpAny_newObj_type ?_ (by size_fits);refine FZ (wpAny_mkText ?_);unfold noteAttr;refine FZ ?_;dsimp only;unfold lacksNameAndObj;dsimp only;refine FZ (FZ (wpAny_isInstance (T:="AttributeError") (b:=true) ⟨_,Gm _ rfl,rfl⟩ F.oX ?_));simp only[Bool.not_true,Hq,if_false];refine FZ (wpAny_load (Gm _ rfl) ?_);show wpAny M A (pure true) _ _ _;refine F3 ?_;rw[F8 rfl];refine FZ (wpAny_rule ?_);refine FZ (wpAny_typeOf (T:="AttributeError") ⟨_,Gm _ rfl,rfl⟩ ?_);dsimp only;refine wpAny_layMembers (Gm _ rfl) rfl ?_;unfold raiseNew;refine FZ (wpAny_handled ?_);rw[hh];refine FZ (F3 (wpAny_throw ?_));refine h _ _ _ ⟨fun b ob hb=>?_,_,G3 _ (Gm _ rfl) (Obj.isFreed_of_fields (Obj.data_mapFields rfl _)),Obj.cls_mapFields _ _⟩;rw[GW _ _ (Nat.ne_of_gt (F5 (Gf hb) (by simp)))];exact F0 _ (F0 _ hb)
namespace F
theorem rm:typeLookup (.type "tuple") "keys"=pure none:=by rw[typeLookup_type,builtinLookup_eq_fast];kernel_rfl
theorem iE:typeLookup (.type "tuple") "__getattr__"=pure none:=by rw[typeLookup_type,builtinLookup_eq_fast];kernel_rfl
end F
section
variable{prog:Program}{w:World}{A:Around}{E:Value->Shared->Prop}{h:Heap}{g:Array GenState}{d:Drawn}{t:Nat}{os:OsState}{a:Addr}{o:Obj}
theorem m9{tk:Tok}{Q:Fin->Shared->Prop}(hh:A.handled=none)(hx:h.get? a=some o)(hc:o.cls=.type "tuple"){its:Array Value}{n:Nat}(hd:o.data=.seq its n)(hn:o.dict=none)
  (hq:∀h' t' e,oQ h h' e->E (.ref e) ⟨h',g,d,t',os⟩):
  wpAny (model prog w) A (Builtin.«object.__getattribute__» ⟨[.ref a,.str "keys" tk],[]⟩) Q E ⟨h,g,d,t,os⟩:=by
 have hT:(⟨h,g,d,t,os⟩:Shared).TypeIs (.ref a) "tuple":=⟨_,hx,hc⟩;have f4:=F.rm;have f5:=F.iE
 repeat (any_goals (first|assumption|wp_step))
 rw[hd];dsimp only
 repeat (any_goals (first|assumption|wp_step))
 rw[hc,hn];dsimp only
 repeat (any_goals (first|assumption|wp_step))
 exact qS hh (by decide+kernel) hq
theorem og{tk:Tok}{R:Result->Shared->Prop}(hh:A.handled=none)(hx:h.get? a=some o)(hc:o.cls=.type "tuple"){its:Array Value}{n:Nat}(hd:o.data=.seq its n)(hn:o.dict=none)
  (hq:∀h' t' e,oQ h h' e->R (.error (.ref e)) ⟨h',g,d,t',os⟩):
  codeAny (model prog w) A (.call (.builtin "tuple.__getattribute__") ⟨[.ref a,.str "keys" tk],[]⟩) R ⟨h,g,d,t,os⟩:=
 codeAny_call_builtin F.slot_tuple_getattribute.plain F.entry_tuple_ga (F.slot_tuple_getattribute.check _ _ _ _ _ _ _ _ (show(⟨h,g,d,t,os⟩:Shared).TypeIs (.ref a) "tuple" from⟨_,hx,hc⟩) (F.args_tuple_getattribute_2 _ _)
  (m9 (by simpa using hh) hx hc hd hn hq))
theorem rn{tk:Tok}{Q:Value->Shared->Prop}(hh:A.handled=none)(hx:h.get? a=some o)(hc:o.cls=.type "tuple"){its:Array Value}{n:Nat}(hd:o.data=.seq its n)(hn:o.dict=none)
  (hq:∀h' t' e,oQ h h' e->E (.ref e) ⟨h',g,d,t',os⟩):wpAny (model prog w) A (getAttrBy (.ref a) (.str "keys" tk) false) Q E ⟨h,g,d,t,os⟩:=by
 have hT:(⟨h,g,d,t,os⟩:Shared).TypeIs (.ref a) "tuple":=⟨_,hx,hc⟩;have f2:=F.slot_tuple_getattribute.lookup;have f3:=F.slot_tuple_getattribute.bind (.ref a);have f5:=F.iE
 repeat (any_goals (first|assumption|wp_step))
 refine og hh hx hc hd hn fun h' t' e he=>?_;obtain⟨oe,ho,hce⟩:=he.2;have hTe:(⟨h',g,d,t',os⟩:Shared).TypeIs (.ref e) "AttributeError":=⟨_,ho,hce⟩;have f6:=F.oX;have hq':=hq h' t' e he
 repeat (any_goals (first|assumption|wp_step))
theorem oh{Q:Option Value->Shared->Prop}(hh:A.handled=none)(hx:h.get? a=some o)(hc:o.cls=.type "tuple"){its:Array Value}{n:Nat}(hd:o.data=.seq its n)(hn:o.dict=none)
  (hq:∀h' t',(∀b ob,h.get? b=some ob->h'.get? b=some ob)->Q none ⟨h',g,d,t',os⟩):wpAny (model prog w) A (getAttr? (.ref a) "keys") Q E ⟨h,g,d,t,os⟩:=by
 unfold getAttr? getAttrBy?;refine FZ (wpAny_mkText ?_);refine FZ (wpAny_attempt (rn hh hx hc hd hn fun h' t' e he=>?_));obtain⟨oe,ho,hce⟩:=he.2;dsimp only;refine FZ (wpAny_isInstance (T:="AttributeError") (b:=true) ⟨_,ho,hce⟩ F.oX ?_);rw[F8 rfl];exact F3 (hq _ _ he.1)
end
section
variable{prog:Program}{w:World}{K:Type}[DecidableEq K]{knd:KeyKind prog w K}{A:Around}{E:Value->Shared->Prop}{s:Shared}
namespace F
theorem dD:plainId "dict.update.loop"=true:=by decide+kernel
theorem hX:entryFor table "dict.update.loop"=some Builtin.«dict.update.loop»:=entryFor_of_fast (by kernel_rfl)
end F
open PyProof.Rows in
theorem nq{R:Result->Shared->Prop}(hh:A.handled=none){a it D:Addr}{its:Array Value}{kvs:List (K×Value)}(hlen:its.size=kvs.length)(hz:kvs.length<=sizeLine)(hne1:a≠it)(hne2:D≠it)(hne3:a≠D)
  (hp:∀(i:Nat)(k:K)(u:Value),kvs[i]?=some (k,u)->∃p key,its[i]?=some (.ref p)/\IsTup s.heap p #[key,u]/\knd.is k key=true/\p≠it/\p≠D):
  ∀(m i:Nat)(s1:Shared),kvs.length-i=m->i<=kvs.length->IsTupIter s1.heap it a i->IsTup s1.heap a its->s1.heap.DictOf knd D (merged [] (kvs.take i))->
  (∀b ob,b≠D->b≠it->s.heap.get? b=some ob->s1.heap.get? b=some ob)->
  (∀h' tk,h'.DictOf knd D (merged [] kvs)->(∀b ob,b≠D->b≠it->s.heap.get? b=some ob->h'.get? b=some ob)->R (.ok (.ret .none)) {s1 with heap:=h',toks:=tk})->
  codeAny (model prog w) A (.builtin "dict.update.loop" ⟨[.ref D,.ref it,rawInt i,.none],[]⟩) R s1:=by
 intro m
 induction m with
 |zero=>
  intro i s1 hk hi hit ht hD keep hR;have hin:i=kvs.length:=by omega
  subst hin;refine codeAny_builtin F.hX ?_;rw[Around.under_plainId F.dD _];show wpAny _ A.in1 (pyNext (.ref it)>>= _) _ _ s1;refine FZ (next_tuple_end (by simpa using hh) hit ht (by simp[hlen]) fun h' hx=>?_);show wpAny (model prog w) A.in1 (Builtin.Dict.addKeywords D []>>= fun _=>ret Value.none) _ _ _;refine FZ (F3 (F3 ?_));rw[GK]at hD;exact hR h' _ (hD.extBut hx hne2) fun b ob h1 h2 e=>hx b ob h2 (keep b ob h1 h2 e)
 |succ m ih=>
  intro i s1 hk hi hit ht hD keep hR;have hlt:i<kvs.length:=by omega
  obtain⟨⟨k,u⟩,hkv⟩:∃kv,kvs[i]?=some kv:=⟨kvs[i],by simp[hlt]⟩;obtain⟨p,key,hi1,hp1,hkey,hpi,hpD⟩:=hp i k u hkv;refine codeAny_builtin F.hX ?_;rw[Around.under_plainId F.dD _];show wpAny _ A.in1 (pyNext (.ref it)>>= _) _ _ s1;refine FZ (next_tuple_item hit ht hi1 fun h' hit' hs'=>?_);have keep':∀b ob,b≠D->b≠it->s.heap.get? b=some ob->h'.get? b=some ob:=fun b ob h1 h2 e=>(hs'.2 b h2).trans (keep b ob h1 h2 e);obtain⟨po,hpo,hpc,pn,hpd⟩:=hp1;have hpo':=keep' p po hpD hpi hpo;dsimp only;refine FZ (G9 ?_);refine FZ (wpAny_tryCatch ?_);unfold Builtin.Dict.pairItems;refine FZ (wpAny_typeOf (T:="tuple") ⟨po,hpo',hpc⟩ ?_);rw[F8 (by decide)];refine FZ (wpAny_seqItems hpo' hpd (F3 ?_));show wpAny (model prog w) A.in1 (holding [key,u] (dictSet D key u)) _ _ _
  refine G9 (wpAny_dictSet_pairs (hsz:=by
   have e1:=merged_length_le ([]:List (K×Value)) (kvs.take i);rw[List.length_nil,G0]at e1
   omega) hkey (hD.sameBut hs' hne2) fun h2 hD2 hs2=>?_)
  refine F3 ⟨plainId_quiet F.dD _,?_⟩;have e2:rawInt (↑i+1)=rawInt ((i+1:Nat):Int):=rfl;rw[e2];refine ih (i+1) _ (by omega) (by omega) ?_ ?_ ?_ (fun b ob h1 h2' e=>(hs2.2 b h1).trans (keep' b ob h1 h2' e)) fun h3 tk3=>hR h3 tk3
  ·obtain⟨oi,hoi,r⟩:=hit';exact⟨oi,(hs2.2 it (Hg hne2)).trans hoi,r⟩
  ·obtain⟨oa,hoa,r⟩:=ht;exact⟨oa,(hs2.2 a hne3).trans ((hs'.2 a hne1).trans hoa),r⟩
  ·rw[merged_take_succ [] kvs i (k,u) hkv];exact hD2
open PyProof.Rows in
theorem oo{Q:Value->Shared->Prop}(hh:A.handled=none){a:Addr}{o:Obj}{its:Array Value}{n:Nat}{kvs:List (K×Value)}(hx:s.heap.get? a=some o)(hc:o.cls=.type "tuple")(hd:o.data=.seq its n)(hn:o.dict=none)(hlen:its.size=kvs.length)(hz:kvs.length<=sizeLine)
  (hp:∀(i:Nat)(k:K)(u:Value),kvs[i]?=some (k,u)->∃p key,its[i]?=some (.ref p)/\IsTup s.heap p #[key,u]/\knd.is k key=true)
  (h:∀h' tk,h'.DictOf knd s.heap.objs.size (merged [] kvs)->(∀b ob,s.heap.get? b=some ob->h'.get? b=some ob)->Q (.ref s.heap.objs.size) {s with heap:=h',toks:=tk}):
  wpAny (model prog w) A (call (.type "dict") [.ref a]) Q E s:=by
 refine callType_codes (Q₁:=fun obj s₁=>obj=.ref s.heap.objs.size/\s₁={s with heap:=s.heap.push {cls:=.type "dict",data:=.dict #[]}}) F.kt_called_dict (F.kt_typeCall_dict_1 _) F.entry_dict_init (kt_code_dict_new _ ⟨rfl,rfl⟩) ?_;rintro obj s₁ ⟨rfl,rfl⟩;have hnew:(s.heap.push {cls:=.type "dict",data:=.dict #[]}).DictOf knd s.heap.objs.size []:=Heap.DictOf.new s.heap;have hx':=F0 {cls:=.type "dict",data:=.dict #[]} hx;refine⟨hnew.typeIs,F.args_dict_init_2 _ _,?_⟩;unfold Builtin.«dict.__init__»;refine FZ ?_;unfold Builtin.Dict.selfAndRest;refine FZ (wpAny_notOrdered_dict hnew.typeIs ?_);show wpAny _ _ (pure (s.heap.objs.size,[Value.ref a])) _ _ _;refine F3 ?_;show wpAny _ _ (Builtin.Dict.updateFrom "dict.__init__" s.heap.objs.size (.ref a) [] .none) _ _ _;unfold Builtin.Dict.updateFrom;refine FZ (wpAny_typeOf (T:="tuple") ⟨o,hx',hc⟩ ?_);rw[F8 (by decide)];refine FZ (oh (by simpa using hh) hx' hc hd hn fun h1 t1 k1=>?_);rw[F8 (show(none:Option Value).isNone=true from rfl)];refine FZ (wpAny_rule ?_);have ht1:IsTup h1 a its:=⟨o,k1 _ _ hx',hc,n,hd⟩;refine FZ (iter_tuple ht1 ?_);have hs0:s.heap.objs.size<h1.objs.size:=by obtain⟨ob,es,ep,hob,_⟩:=hnew;exact Gf (k1 _ _ hob)
 have ha:=Gf hx;have ne1:a≠h1.objs.size:=Gz (Nat.lt_trans ha hs0);have ne2:s.heap.objs.size≠h1.objs.size:=Gz hs0;have ne3:a≠s.heap.objs.size:=Gz ha;refine F3 ⟨plainId_quiet F.dD _,?_⟩;refine nq (knd:=knd) (s:={s with heap:=h1.push {cls:=.type "tuple_iterator",data:=.fields #[.ref a,.int 0 0]}}) (by simpa using hh) hlen hz ne1 ne2 ne3 ?_ kvs.length 0 _ rfl (GO _) ⟨_,Gm _ rfl,rfl,rfl⟩ (ht1.push _) ?_ (fun b ob _ _ e=>e) fun h' tk hD keep=>⟨rfl,h h' tk hD fun b ob e=>?_⟩
 ·intro i k u e;obtain⟨p,key,h1',h2,h3⟩:=hp i k u e;have lp:=h2.lt;exact⟨p,key,h1',(h2.keeps fun b ob e=>k1 _ _ (F0 _ e)).push _,h3,Gz (Nat.lt_trans lp hs0),Gz lp⟩
 ·exact(hnew.keep k1).push _
 ·have lb:=Gf e;exact keep b ob (Gz lb) (Gz (Nat.lt_trans lb hs0)) (F0 _ (k1 _ _ (F0 _ e)))
end
end PySem
namespace L2
open PySem PySem.Spec PyProof.Rows
def ux(o:Obj):Prop:=o.cls=.type "tuple"/\o.dict=none/\∃its n,o.data=.seq its n
def ShF(K:Frag)(H:Hp)(a:Addr)(S:Sh):Prop:=∃o vs,ux o/\H a=some (.frz o (.tup vs))/\Paired (ShE K H) vs S
theorem ShF.t{K:Frag}{H:Hp}{a:Addr}{S:Sh}(h:ShF K H a S):ShT K H a S:=by obtain⟨o,vs,_,e,r⟩:=h;exact⟨vs,.inl (.inr ⟨o,e⟩),r⟩
theorem ShF.tk{K:Frag}{H H':Hp}{a:Addr}{S:Sh}(s:TK H H')(h:ShF K H a S):ShF K H' a S:=by obtain⟨o,vs,p,e,r⟩:=h;exact⟨o,vs,p,s.2 _ _ _ e,Paired.imp (fun _ _=>ShE.tk s) r⟩
section
variable{X:Cx}
theorem sv:dU X (.type "tuple") (fun xs H Q=>∃p ys,xs=[.ref p]/\SqL X.K H p ys/\∀l o,H l=none->ux o->Q (.ref l) (upd H l (.frz o (.tup ys)))):=by
 intro pins s σ H xs us Q I r h;obtain⟨p,ys,rfl,hq,q⟩:=h;obtain⟨u,rfl,rx⟩:=vals1 r;cases rx;obtain⟨its,r',pl,hz⟩:=I.list hq;have hlen:=r'.length;refine call_tuple_list pl.isList (fun h' kp=>?_) (by simp only[Ga]<;>omega);have I1:Inv X pins σ H {s with heap:=h'}:=I.kept (t':=s.toks) kp;have I2:Inv X pins σ (upd H h'.objs.size (.frz {cls:=.type "tuple",data:=.seq its.toArray} (.tup ys))) {s with heap:=h'.push {cls:=.type "tuple",data:=.seq its.toArray}}:=
  I1.laid (t':=s.toks) (fun b o e=>F0 _ e) (F4 _) (show bN X.prog X.w _ _ _ (.frz _ (.tup ys))from⟨Gm _ rfl,hz,its,r',IsTup.new _ _⟩)
 exact⟨.ref h'.objs.size,_,I2,rfl,q _ _ (I1.hok.fresh (F4 _)) ⟨rfl,rfl,_,_,rfl⟩⟩
def Dp(K:Frag):List V->Hp->VK->Prop:=fun xs H Q=>∃a o vs kvs,xs=[.ref a]/\ux o/\H a=some (.frz o (.tup vs))/\
 Paired (fun v (kv:Key×V)=>∃r,v=.ref r/\SqT K H r [kV kv.1,kv.2]) vs kvs/\∀l,H l=none->Q (.ref l) (upd H l (.dK (dR [] kvs)))
theorem qx(hc:X.calm=true):dU X (.type "dict") (Dp X.K):=by
 intro pins s σ H xs us Q I r h;obtain⟨a,o,vs,kvs,rfl,⟨p1,p2,its,n,p3⟩,ha,pr,q⟩:=h;obtain⟨u,rfl,rx⟩:=vals1 r;cases rx;obtain⟨ho,hz,its',rv,o',ho',_,n',hd'⟩:=I.hok a _ ha;rw[ho]at ho';cases ho';rw[p3]at hd';injection hd' with e1 e2;subst e1;have key:∀{vs:List V}{us:List Value}{kvs:List (Key×V)},Vals vs us->Paired (fun v (kv:Key×V)=>∃r,v=.ref r/\SqT X.K H r [kV kv.1,kv.2]) vs kvs->
   ∃ws:List (Key×Value),KV kvs ws/\us.length=ws.length/\∀(i:Nat)(k:Key)(u:Value),ws[i]?=some (k,u)->∃p key,us[i]?=some (.ref p)/\IsTup s.heap p #[key,u]/\(ba X.prog X.w).is k key=true:=by
  intro vs us kvs rv pr
  induction pr generalizing us with
  |nil=>have:=rv.zero;subst this;exact⟨[],.nil,rfl,fun i k u e=>by simp at e⟩
  | @cons v kv vs' kvs' hv pt ih=>
   obtain⟨r,rfl,hr⟩:=hv;cases rv with
   | @cons _ w1 _ us' r1 r2=>
    cases r1;obtain⟨ws,k1,k2,k3⟩:=ih r2;obtain⟨its2,rv2,pl2,_⟩:=I.tuple hr;obtain⟨y1,y2,rfl,q1,q2⟩:=vals2 rv2;refine⟨(kv.1,y2)::ws,.cons ⟨rfl,q2⟩ k1,by simp[k2],fun i k u e=>?_⟩;cases i with
    |zero=>simp at e;obtain⟨rfl,rfl⟩:=e;exact⟨r,y1,rfl,pl2,vm q1⟩
    |succ i=>obtain⟨p,key,e1,e2⟩:=k3 i k u (by simpa using e);exact⟨p,key,by simpa using e1,e2⟩
 obtain⟨ws,k1,k2,k3⟩:=key rv pr;have hlen:=rv.length;have l2:=KV.len k1;refine oo (knd:=ba X.prog X.w) (kvs:=ws) (I.ok.hd hc) ho p1 p3 p2 (by simpa using k2) (by omega) (fun i k u e=>?_) fun h' tk hD keep=>?_
 ·obtain⟨p,key,e1,e2⟩:=k3 i k u e;exact⟨p,key,by simpa using e1,e2⟩
 ·refine⟨.ref s.heap.objs.size,_,I.laid (t':=tk) (o:=.dK (dR [] kvs)) keep (F4 _) (AL ?_ (G6.mpr (Hg (Gz I.big))) (k1.merge .nil) hD),rfl,q _ (I.hok.fresh (F4 _))⟩;have h1:=kE kvs [];rw[List.length_nil]at h1;omega
theorem AW{bs:List Bool}{its:List Value}(rv:Vals (bs.map V.bl) its){i:Nat}{v:Value}(h:its[i]?=some v):∃b,bs[i]?=some b/\v=.bool b:=by
 have hl:=rv.length;rw[FY]at hl;have hi:i<bs.length:=by
  rcases Nat.lt_or_ge i its.length with z|z
  ·omega
  ·rw[List.getElem?_eq_none z]at h;cases h
 obtain⟨b,hb⟩:∃b,bs[i]?=some b:=⟨bs[i],by simp[hi]⟩;obtain⟨u,h1,h2⟩:=Vals.get rv (i:=i) (x:=.bl b) (by rw[Gn,hb];rfl);rw[h]at h1;cases h1;exact⟨b,hb,h2⟩
theorem range_any(bs:List Bool):((List.range bs.length).any fun i=>bs.getD i false)=bs.any id:=by
 rw[Hz,Hr,Hr];constructor
 ·rintro⟨i,hi,h⟩;have hi:=GN.mp hi;refine⟨bs[i],Hv hi,?_⟩;simpa[List.getD,hi]using h
 ·rintro⟨b,hb,h⟩;obtain⟨i,hi,rfl⟩:=List.getElem_of_mem hb;exact⟨i,GN.mpr hi,by simpa[List.getD,hi]using h⟩
def FJ:List V->Hp->VK->Prop:=fun xs H Q=>∃(p:Addr)(bs:List Bool),xs=[.ref p]/\Rd H p (.lst (bs.map V.bl))/\Q (.bl (bs.any id)) H
theorem yT(hc:X.calm=true):dU X (.builtin "any") FJ:=by
 intro pins s σ H xs us Q I r h;obtain⟨p,bs,rfl,hx,q⟩:=h;obtain⟨u,rfl,ru⟩:=vals1 r;cases ru;obtain⟨its,rv,pl,hz⟩:=I.list (.inl hx:SqL X.K H p _);have hl:=rv.length;rw[FY]at hl;have hI:=pl.isList;have hlt:p<s.heap.objs.size:=by obtain⟨_,e,_⟩:=hI;exact Gf e
 have hne:p≠s.heap.objs.size:=Gz hlt;refine call_any_walk (wpAny_pyIter_list hI ?_);refine⟨_,_,_,_,_,_,fun i=>bs.getD i false,rfl,Walks.list (A:=X.A.in1) (I.ok.hd hc) _ p hne its.toArray,⟨⟨_,Gm _ rfl,rfl,rfl⟩,hI.push _⟩,?_,fun h' tk hk=>?_⟩
 ·intro i v s Q E hv hq;obtain⟨b,hb,rfl⟩:=AW rv (by simpa using hv);have e:bs.getD i false=b:=by simp[List.getD,hb]
  have hq':Q (bs.getD i false) s:=hq;rw[e]at hq';exact F3 hq'
 ·rw[Ga,<-hl,range_any];exact⟨.bl _,H,I.kept (old_kept hk),rfl,q⟩
def EM(K:Frag):List V->Hp->VK->Prop:=fun xs H Q=>∃(x c:V)(a:Addr)(ys:List V)(b:Bool)(cv:Value),xs=[x,c]/\x=.ref a/\SqT K H a ys/\RelV c cv/\(∀u,RelV c u->u=cv)/\kitOne K (.type "tuple") cv=some b/\Q (.bl b) H
theorem AV:dU X (.builtin "isinstance") (EM X.K):=by intro pins s σ H xs us Q I r h;obtain⟨x,c,a,ys,b,cv,rfl,rfl,hx,rc,uc,e,q⟩:=h;obtain⟨u1,u2,rfl,r1,r2⟩:=vals2 r;cases r1;obtain rfl:=uc u2 r2;obtain⟨its,rv,⟨o,h1,h2,_⟩,hz⟩:=I.tuple hx;exact Hf PySem.W.kitx_tuple I.kIn ⟨o,h1,h2⟩ e (fun z=>nomatch z) fun tk=>⟨.bl b,H,I.tok _,rfl,q⟩
end
noncomputable def aG(S:Sh)(x:Str):Int×Int:=((S.find? fun p=>decide (p.1=x)).map (·.2)).getD (0,1)
noncomputable def eF(S:Sh)(x:Str)(f:Int×Int):Sh:=if(S.any fun p=>decide (p.1=x))=true then S.map (fun p=>if p.1=x then(p.1,f)else p)else S++[(x,f)]
def ShV(K:Frag)(H:Hp)(kv:Key×V)(p:Str×Int×Int):Prop:=kv.1=Sum.inr p.1/\∃q,kv.2=.ref q/\SqT K H q [.int p.2.1,.int p.2.2]
def ShD(K:Frag)(H:Hp)(d:Addr)(S:Sh):Prop:=∃kvs,H d=some (.dK kvs)/\Paired (ShV K H) kvs S
theorem ShV.tk{K:Frag}{H H':Hp}{kv:Key×V}{p:Str×Int×Int}(t:TK H H')(h:ShV K H kv p):ShV K H' kv p:=by obtain⟨e,q,e2,h2⟩:=h;exact⟨e,q,e2,t.sq h2⟩
def jL(d:Addr)(H H':Hp):Prop:=∀b o,b≠d->H b=some o->H' b=some o
theorem jL.upd{d:Addr}{H:Hp}{o:HO}:jL d H (upd H d o):=fun b u n e=>by rw[az n];exact e
theorem jL.trans{d:Addr}{H H1 H2:Hp}(a:jL d H H1)(b:jL d H1 H2):jL d H H2:=fun c o n e=>b c o n (a c o n e)
theorem aw.x{d:Addr}{H H':Hp}(a:aw H H'):jL d H H':=fun c o _ e=>a c o e
section
variable{K:Frag}{H:Hp}
theorem Co(a b:Str):decide ((Sum.inr a:Key)=Sum.inr b)=decide (a=b):=Ar a b
theorem jO{x:Str}:∀{kvs:List (Key×V)}{S:Sh},Paired (ShV K H) kvs S->
  (eu kvs (Sum.inr x)=none/\S.find? (fun p=>decide (p.1=x))=none)\/∃q p,eu kvs (Sum.inr x)=some (.ref q)/\S.find? (fun p=>decide (p.1=x))=some p/\SqT K H q [.int p.2.1,.int p.2.2]
 |_,_,.nil=>.inl ⟨rfl,rfl⟩
 |_,_,@Paired.cons _ _ _ kv p _ _ a b=>by
  obtain⟨e,q,e2,h2⟩:=a;by_cases h:p.1=x
  ·refine .inr ⟨q,p,?_,?_,h2⟩
   ·rw[cK (by rw[e,h]),e2]
   ·rw[GJ,Gp h]
  ·have hk:¬kv.1=Sum.inr x:=fun z=>h (Sum.inr.inj (e.symm.trans z));rw[cL hk,GJ,Gw h];exact jO b
theorem Bq{x:Str}{kvs:List (Key×V)}{S:Sh}(hI:Paired (ShV K H) kvs S):(kvs.any fun kv=>decide (kv.1=Sum.inr x))=S.any fun p=>decide (p.1=x):=by
 induction hI with
 |nil=>exact rfl
 | @cons kv p _ _ a b ih=>rw[Hw,Hw,ih,a.1,Co]
theorem Bp{x:Str}{q:Addr}{t b:Int}(hq:SqT K H q [.int t,.int b]){kvs:List (Key×V)}{S:Sh}(hI:Paired (ShV K H) kvs S):Paired (ShV K H) (kvs.map fun kv=>if kv.1=Sum.inr x then(kv.1,.ref q)else kv) (S.map fun p=>if p.1=x then(p.1,(t,b))else p):=by
 induction hI with
 |nil=>exact .nil
 | @cons kv p _ _ a r ih=>
  rw[F9,F9];refine .cons ?_ (ih);by_cases h:p.1=x
  ·rw[F8 h,F8 (by rw[a.1,h])];exact⟨a.1,q,rfl,hq⟩
  ·rw[F6 h,F6 (fun z=>h (Sum.inr.inj (a.1.symm.trans z)))];exact a
theorem ow{x:Str}{q:Addr}{t b:Int}(hq:SqT K H q [.int t,.int b]){kvs:List (Key×V)}{S:Sh}(r:Paired (ShV K H) kvs S):Paired (ShV K H) (putK kvs (Sum.inr x) (.ref q)) (eF S x (t,b)):=by
 unfold putK eF;rw[Bq r];split
 ·exact Bp hq r
 ·exact Paired.app r (.cons ⟨rfl,q,rfl,hq⟩ .nil)
theorem rN{kvs:List (Key×V)}{S:Sh}(hI:Paired (ShV K H) kvs S):(kvs.map fun p=>kV p.1)=(S.map (·.1)).map V.str:=by
 induction hI with
 |nil=>exact rfl
 | @cons kv p _ _ a b ih=>rw[F9,F9,F9,ih,a.1];rfl
theorem zu{kvs:List (Key×V)}{S:Sh}(hI:Paired (ShV K H) kvs S):kvs.map (·.1)=(S.map (·.1)).map Sum.inr:=by
 induction hI with
 |nil=>exact rfl
 |cons a b ih=>rw[F9,F9,F9,ih,a.1]
theorem nR:∀(more acc:List (Key×V)),((acc++more).map (·.1)).Nodup->dR acc more=acc++more
 | [],acc,_=>by unfold dR;simp
 |kv::more,acc,h=>by
  have hn:¬(acc.any fun p=>decide (p.1=kv.1))=true:=by rw[Hr];rintro⟨p,hp,e⟩;rw[Gk,List.nodup_append]at h;exact h.2.2 p.1 (List.mem_map_of_mem hp) kv.1 (by simp) (Gu e)
  have e:dR acc (kv::more)=dR (acc++[kv]) more:=by unfold dR;rw[List.foldl_cons];congr 1;unfold putK;rw[F6 hn]
  rw[e,nR more (acc++[kv]) (by simpa using h)];simp
theorem wG{kvs:List (Key×V)}(h:(kvs.map (·.1)).Nodup):dR [] kvs=kvs:=nR kvs [] h
theorem yt{l:List Str}(h:l.Nodup):(l.map (Sum.inr:Str->Key)).Nodup:=by
 induction l with
 |nil=>exact List.nodup_nil
 |cons a l ih=>rw[Hh]at h;rw[F9,Hh];refine⟨fun z=>h.1 ?_,ih h.2⟩;obtain⟨b,hb,e⟩:=Ge.mp z;rw[<-Sum.inr.inj e];exact hb
theorem uJ:∀{vs:List V}{S:Sh},Paired (ShE K H) vs S->∃kvs,Paired (fun v (kv:Key×V)=>∃r,v=.ref r/\SqT K H r [kV kv.1,kv.2]) vs kvs/\Paired (ShV K H) kvs S
 |_,_,.nil=>⟨[],.nil,.nil⟩
 |_,_,@Paired.cons _ _ _ _ p _ _ a b=>by obtain⟨kvs,h1,h2⟩:=uJ b;obtain⟨r,q,e,hr,hq⟩:=a;exact⟨(Sum.inr p.1,.ref q)::kvs,.cons ⟨r,e,hr⟩ h1,.cons ⟨rfl,q,rfl,hq⟩ h2⟩
end
theorem pj(x:Str):aG [] x=(0,1):=rfl
theorem fk(p:Str×Int×Int)(S:Sh)(x:Str):aG (p::S) x=if p.1=x then p.2 else aG S x:=by
 unfold aG;rw[GJ];by_cases h:p.1=x
 ·rw[Gp h,F8 h];rfl
 ·rw[Gw h,F6 h]
theorem oP(S:Sh)(x:Str):(S.any fun p=>decide (p.1=x))=true<->x∈S.map (·.1):=by
 rw[Hr,Ge];constructor
 ·rintro⟨p,hp,h⟩;exact⟨p,hp,Gu h⟩
 ·rintro⟨p,hp,h⟩;exact⟨p,hp,Gp h⟩
theorem uK{S:Sh}{x:Str}(h:x∉S.map (·.1)):aG S x=(0,1):=by unfold aG;rw[Hn.mpr fun p hp z=>h (Ge.mpr ⟨p,hp,Gu z⟩)];rfl
theorem lL{S:Sh}{x:Str}(h:x∈S.map (·.1)):(x,aG S x)∈S:=by
 induction S with
 |nil=>simp at h
 |cons p S ih=>
  rw[fk];by_cases e:p.1=x
  ·rw[F8 e,<-e];exact F7 ..
  ·rw[F6 e];rw[F9,Gg]at h;rcases h with h|h
   ·exact absurd h.symm e
   ·exact F1 _ (ih h)
theorem kI(S:Sh)(x:Str)(f:Int×Int):(eF S x f).map (·.1)=if x∈S.map (·.1)then S.map (·.1)else S.map (·.1)++[x]:=by
 unfold eF;by_cases h:x∈S.map (·.1)
 ·rw[F8 ((oP S x).mpr h),F8 h,List.map_map];refine List.map_congr_left fun p _=>?_;show(if p.1=x then(p.1,f)else p).1=p.1;split<;>rfl
 ·rw[F6 (fun z=>h ((oP S x).mp z)),F6 h,Gk];rfl
theorem wj{S:Sh}(h:(S.map (·.1)).Nodup)(x:Str)(f:Int×Int):((eF S x f).map (·.1)).Nodup:=by
 rw[kI];split
 ·exact h
 ·rename_i z;rw[List.nodup_append];exact⟨h,by simp,fun a ha b hb e=>z (by rw[F2]at hb;rw[<-hb,<-e];exact ha)⟩
theorem lU(S:Sh)(x:Str)(f:Int×Int):(eF S x f).length<=S.length+1:=by
 have e:(eF S x f).length=((eF S x f).map (·.1)).length:=(FY ..).symm;rw[e,kI];split
 ·rw[FY];omega
 ·rw[Gd,FY];simp
theorem uR{S:Sh}{x:Str}{f:Int×Int}{p:Str×Int×Int}(h:p∈eF S x f):p=(x,f)\/p∈S:=by
 unfold eF at h;split at h
 ·obtain⟨r,hr,rfl⟩:=Ge.mp h;by_cases e:r.1=x
  ·rw[F8 e,e];exact .inl rfl
  ·rw[F6 e];exact .inr hr
 ·rcases Gj.mp h with z|z
  ·exact .inr z
  ·exact .inl (F2.mp z)
theorem zx(S:Sh)(x y:Str)(f:Int×Int):aG (eF S x f) y=if y=x then f else aG S y:=by
 unfold eF;by_cases a:(S.any fun p=>decide (p.1=x))=true
 ·rw[F8 a];have hx:=(oP S x).mp a;clear a
  induction S with
  |nil=>simp at hx
  |cons p S ih=>
   rw[F9,fk,fk];by_cases e:p.1=x
   ·rw[F8 e];by_cases e2:p.1=y
    ·rw[F8 e2,F8 (e2.symm.trans e)]
    ·rw[F6 e2,F6 e2];have hy:y≠x:=fun z=>e2 (e.trans z.symm);rw[F6 hy];by_cases hx2:x∈S.map (·.1)
     ·rw[ih hx2,F6 hy]
     ·congr 1;rw[List.map_congr_left (g:=id) fun r hr=>?_,List.map_id];rw[F6 (fun z=>hx2 (Ge.mpr ⟨r,hr,z⟩))];rfl
   ·rw[F6 e];rw[F9,Gg]at hx;rcases hx with hx|hx
    ·exact absurd hx.symm e
    ·rw[ih hx];by_cases e2:p.1=y
     ·rw[F8 e2,F8 e2,F6 (fun z=>e (e2.trans z))]
     ·rw[F6 e2,F6 e2]
 ·rw[F6 a];have hx:x∉S.map (·.1):=fun z=>a ((oP S x).mpr z);clear a
  induction S with
  |nil=>
   rw[List.nil_append,fk,pj];by_cases e:x=y
   ·rw[F8 e,F8 e.symm]
   ·rw[F6 e,F6 (fun z=>e z.symm)]
  |cons p S ih=>
   rw[F9,Gg,not_or]at hx;rw[List.cons_append,fk,fk,ih hx.2];by_cases e2:p.1=y
   ·rw[F8 e2,F8 e2,F6 (fun z=>hx.1 (z.symm.trans e2.symm))]
   ·rw[F6 e2,F6 e2]
theorem xF:∀(a b:List Nat),ltCps a b=false->ltCps b a=false->a=b
 | [],[],_,_=>rfl
 | [],_::_,h,_=>by simp[ltCps]at h
 |_::_,[],_,h=>by simp[ltCps]at h
 |x::r,y::t,h1,h2=>by
  simp only[ltCps,Bool.or_eq_false_iff,decide_eq_false_iff_not,Bool.and_eq_false_iff,G6]at h1 h2;have e:x=y:=by omega
  subst e;have a:=h1.2.resolve_left (fun z=>z rfl);have b:=h2.2.resolve_left (fun z=>z rfl);rw[xF r t a b]
theorem le_trans':∀(a b c:List Nat),ltCps b a=false->ltCps c b=false->ltCps c a=false
 | [],_,[],_,_=>rfl
 | [],[],_::_,_,_=>rfl
 | [],_::_,_::_,_,_=>rfl
 |_::_,[],_,h,_=>by simp[ltCps]at h
 |_::_,_::_,[],_,h=>by simp[ltCps]at h
 |x::r,y::t,z::u,h1,h2=>by
  simp only[ltCps,Bool.or_eq_false_iff,decide_eq_false_iff_not,Bool.and_eq_false_iff,G6]at h1 h2 ⊢;refine⟨by omega,?_⟩;by_cases e:z=x
  ·right;have e1:y=x:=(by omega);have e2:z=y:=(by omega);have a:=h1.2.resolve_left (fun w=>w e1);have b:=h2.2.resolve_left (fun w=>w e2);exact le_trans' r t u a b
  ·exact .inl e
def leS(a b:Str):Prop:=ltCps b.cps.toList a.cps.toList=false
theorem rP:∀(l:List Str)(p:Str),risingS p l=true->(p::l).Pairwise leS
 | [],p,_=>by simp
 |x::r,p,h=>by
  simp only[risingS,G8,Bool.not_eq_true']at h;have ih:=rP r x h.2;rw[List.pairwise_cons];refine⟨fun y hy=>?_,ih⟩;rcases Gg.mp hy with e|hy
  ·subst e;exact h.1
  ·exact le_trans' _ _ _ h.1 ((List.pairwise_cons.mp ih).1 y hy)
theorem rM{l:List Str}(h:sortedS l=true):l.Pairwise leS:=by
 cases l with
 |nil=>exact .nil
 |cons x r=>exact rP r x h
theorem xn{a b:Str}(h:a.cps.toList=b.cps.toList):a=b:=by cases a;cases b;congr 1;exact Array.toList_inj.mp h
theorem uH{l m:List Str}(h:l.Perm m)(h1:sortedS l=true)(h2:sortedS m=true):l=m:=
 List.Perm.eq_of_pairwise (fun a b _ _ x y=>xn (xF _ _ y x)) (rM h1) (rM h2) h
noncomputable def je(f g:Int×Int):Int×Int:=(frT (f.1*g.2+g.1*f.2) (f.2*g.2),frB (f.1*g.2+g.1*f.2) (f.2*g.2))
noncomputable def cq(f g:Int×Int):Int×Int:=(frT (f.1*g.2-g.1*f.2) (f.2*g.2),frB (f.1*g.2-g.1*f.2) (f.2*g.2))
structure uy(f:Int×Int):Prop where
 pos:0<f.2
 cop:Int.gcd f.1 f.2=1
theorem oG(t:Int){b:Int}(h:0<b):uy (frT t b,frB t b):=⟨oH h,AE h⟩
theorem zM{f g:Int×Int}(hf:0<f.2)(hg:0<g.2):uy (je f g):=oG _ (HJ hf hg)
theorem jS{f g:Int×Int}(hf:0<f.2)(hg:0<g.2):uy (cq f g):=oG _ (HJ hf hg)
theorem AG{t b:Int}(ht:0<=t)(hb:0<b):0<=frT t b:=by
 rcases Int.lt_or_eq_of_le ht with h|h
 ·exact He (oF h hb)
 ·subst h;unfold frT;simp
theorem yK{f:Int×Int}(h:uy f)(z:f.1=0):f=(0,1):=by
 obtain⟨a,b⟩:=f;have c:=h.cop;have p:=h.pos;simp only at z c p;subst z;rw[Int.gcd_zero_left]at c;have:b=1:=by omega
 rw[this]
noncomputable def bY(S:Sh)(ss:List Str):Sh:=(ss.map fun x=>(x,aG S x)).filter fun p=>decide (p.2≠(0,1))
noncomputable def fh(S:Sh)(ss:List Str):Sh:=(ss.map fun x=>(x,aG S x)).filter fun p=>decide (0<p.2.1)
noncomputable def FIN:Int:=1000000000000000000000000000000000000000000000000000000000000
structure nz(S:Sh):Prop where
 nd:(S.map (·.1)).Nodup
 ok:∀p∈S,uy p.2/\0<=p.2.1
theorem nz.at{S:Sh}(h:nz S)(x:Str):uy (aG S x)/\0<=(aG S x).1:=by
 by_cases z:x∈S.map (·.1)
 ·exact h.ok _ (lL z)
 ·rw[uK z];exact⟨⟨by decide,by decide⟩,by decide⟩
theorem nz.put{S:Sh}(h:nz S)(x:Str){f:Int×Int}(hf:uy f)(h0:0<=f.1):nz (eF S x f):=by
 refine⟨wj h.nd x f,fun p hp=>?_⟩;rcases uR hp with e|e
 ·subst e;exact⟨hf,h0⟩
 ·exact h.ok p e
theorem yc{S:Sh}(h:nz S)(ss:List Str):fh S ss=bY S ss:=by
 unfold fh bY;refine List.filter_congr fun p hp=>?_;obtain⟨x,_,rfl⟩:=Ge.mp hp;obtain⟨o,n⟩:=h.at x;rw[decide_eq_decide];constructor
 ·intro z e;rw[e]at z;exact absurd z (by decide)
 ·intro z;rcases Int.lt_or_eq_of_le n with a|a
  ·exact a
  ·exact absurd (yK o a.symm) z
theorem jX{α:Type}{l:List α}{i:Nat}{x:α}(h:l[i]?=some x):l.drop i=x::l.drop (i+1):=by rw[List.drop_eq_getElem?_toList_append,h];rfl
theorem oU{S:Sh}{ss:List Str}{i:Nat}{x:Str}(h:ss[i]?=some x):bY S (ss.take (i+1))=bY S (ss.take i)++(if aG S x=(0,1)then[]else[(x,aG S x)]):=by
 unfold bY;rw[GI,h,GX,Gk,Ho];congr 1;by_cases z:aG S x=(0,1)
 ·rw[F8 z];simp[z]
 ·rw[F6 z];simp[z]
theorem oV{S:Sh}{ss:List Str}{i:Nat}{x:Str}(h:ss[i]?=some x):fh S (ss.take (i+1))=fh S (ss.take i)++(if 0<(aG S x).1 then[(x,aG S x)]else[]):=by
 unfold fh;rw[GI,h,GX,Gk,Ho];congr 1;by_cases z:0<(aG S x).1
 ·rw[F8 z];simp[z]
 ·rw[F6 z];simp[z]
theorem oS(S:Sh)(ss:List Str):(bY S ss).length<=ss.length:=by unfold bY;refine GA (Hk ..) ?_;rw[FY];exact F4 _
theorem rJ(S:Sh)(ss:List Str):(fh S ss).length<=ss.length:=by unfold fh;refine GA (Hk ..) ?_;rw[FY];exact F4 _
theorem xW{K:Frag}{a:Addr}{xs:List V}{g:TG}{tt:TT}{te:TE}{σ0:St}{Q:Hp->Prop}{D:Addr}{H:Hp}(Pv:Nat->List V->Hp->Prop)(h0:Pv 0 [] H)(hl:∀i acc H,i<=xs.length->Pv i acc H->SqT K H a xs)
  (hs:∀i x acc H2,xs[i]?=some x->Pv i acc H2->g x σ0 H2 fun σ2 H4=>tt σ2 H4 fun b H5=>if b=true then te σ2 H5 fun y H6=>H6 D=some (.lst acc)/\acc.length<sizeLine/\Pv (i+1) (acc++[y]) (upd H6 D (.lst (acc++[y])))else Pv (i+1) acc H5)
  (hd:∀acc H2,Pv xs.length acc H2->Q H2):
  ∃W:Nat->Nat->List V->Hp->Prop,(∃m,W 0 m [] H)/\∀i m acc H2,W i m acc H2->
   ((Itt K a).stop i H2/\Q H2)\/((Itt K a).go i H2/\∃N:List V->Hp->Prop,(∀acc' H',N acc' H'->∃m',m'<m/\W (i+1) m' acc' H')/\∀x H3,(Itt K a).yld i H2 x H3->g x σ0 H3 fun σ2 H4=>tt σ2 H4 fun b H5=>if b=true then te σ2 H5 fun y H6=>H6 D=some (.lst acc)/\acc.length<sizeLine/\N (acc++[y]) (upd H6 D (.lst (acc++[y])))else N acc H5):=by
 refine⟨fun i m acc H=>m=xs.length-i/\i<=xs.length/\Pv i acc H,⟨xs.length,by simp,GO _,h0⟩,?_⟩;rintro i m acc H2 ⟨rfl,hi,p⟩;have q:=hl i acc H2 hi p;by_cases hlt:i<xs.length
 ·refine .inr ⟨⟨xs,xs[i],q,by simp[hlt]⟩,Pv (i+1),fun acc' H' p'=>⟨xs.length-(i+1),by omega,rfl,hlt,p'⟩,fun x H3 y=>?_⟩;obtain⟨e,y⟩:=y;subst e;exact hs i x acc _ (y xs q) p
 ·have e:i=xs.length:=by omega
  subst e;exact .inl ⟨⟨xs,q,F4 _⟩,hd acc H2 p⟩
theorem DX(a b c d:Int):PyData.eqv (.tuple [.int a,.int b]) (.tuple [.int c,.int d])=decide ((a,b)=(c,d)):=by
 by_cases h:(a,b)=(c,d)
 ·obtain⟨rfl,rfl⟩:=Prod.mk.inj h;rw[FT,Gp rfl]
 ·rw[Gw h];cases e:PyData.eqv (.tuple [.int a,.int b]) (.tuple [.int c,.int d])with
  |false=>rfl
  |true=>exfalso;apply h;simp[PyData.eqv,PyData.eqvAll]at e;rw[e.1,e.2]
noncomputable def iF(S:Sh)(g k:Str)(f:Int×Int):Sh:=eF (eF S g (cq (aG S g) f)) k (je (aG (eF S g (cq (aG S g) f)) k) f)
def ShB(n:Nat)(S:Sh):Prop:=∀p∈S,Bd n p.2.1/\Bd n p.2.2
theorem ShB.at{n:Nat}{S:Sh}(h:ShB n S)(hn:2<=n)(x:Str):Bd n (aG S x).1/\Bd n (aG S x).2:=by
 by_cases z:x∈S.map (·.1)
 ·exact h _ (lL z)
 ·rw[uK z];exact⟨Bd.mono (m:=2) (Bd.of (by decide)) hn,Bd.mono (m:=2) (Bd.of (by decide)) hn⟩
theorem ShB.mono{n m:Nat}{S:Sh}(h:ShB n S)(hn:n<=m):ShB m S:=fun p hp=>⟨(h p hp).1.mono hn,(h p hp).2.mono hn⟩
theorem ShB.put{n:Nat}{S:Sh}(h:ShB n S)(x:Str){f:Int×Int}(h1:Bd n f.1)(h2:Bd n f.2):ShB n (eF S x f):=fun p hp=>by
 rcases uR hp with e|e
 ·subst e;exact⟨h1,h2⟩
 ·exact h p e
theorem vL{n m:Nat}{f g:Int×Int}(f1:Bd n f.1)(f2:Bd n f.2)(g1:Bd m g.1)(g2:Bd m g.2):Bd (n+m+1) (cq f g).1/\Bd (n+m) (cq f g).2:=by
 have e1:Bd (n+m) (f.1*g.2):=f1.mul g2;have e2:Bd (n+m) (g.1*f.2):=by rw[Int.mul_comm];exact f2.mul g1
 have e3:Bd (n+m) (f.2*g.2):=f2.mul g2;have e4:Bd (n+m+1) (f.1*g.2-g.1*f.2):=by rw[Int.sub_eq_add_neg];exact(e1.add e2.neg).mono (by omega)
 exact⟨Bd.frT e4,Bd.frB e3⟩
theorem jW(S:Sh)(g k:Str)(f:Int×Int):(iF S g k f).length<=S.length+2:=by unfold iF;have h1:=lU S g (cq (aG S g) f);have h2:=lU (eF S g (cq (aG S g) f)) k (je (aG (eF S g (cq (aG S g) f)) k) f);omega
theorem me{f g:Int×Int}(hf:0<f.2)(hg:0<g.2)(h:¬f.1*g.2<g.1*f.2):0<=(cq f g).1:=AG (by omega) (HJ hf hg)
theorem BD{f g:Int×Int}(hf:0<f.2)(hg:0<g.2)(h1:0<=f.1)(h2:0<=g.1):0<=(je f g).1:=
 AG (Int.add_nonneg (Int.mul_nonneg h1 (He hg)) (Int.mul_nonneg h2 (He hf))) (HJ hf hg)
theorem vn{S:Sh}(h:nz S){g k:Str}{f:Int×Int}(hf:0<f.2)(f0:0<=f.1)(hn:¬(aG S g).1*f.2<f.1*(aG S g).2):nz (iF S g k f):=by have a:=h.at g;have h1:=h.put g (jS a.1.pos hf) (me a.1.pos hf hn);have b:=h1.at k;exact h1.put k (zM b.1.pos hf) (BD b.1.pos hf b.2 f0)
theorem ShF.dictE{K:Frag}{H:Hp}{a:Addr}{S:Sh}(h:ShF K H a S)(nd:(S.map (·.1)).Nodup):∃o vs kvs,ux o/\H a=some (.frz o (.tup vs))/\
  Paired (fun v (kv:Key×V)=>∃r,v=.ref r/\SqT K H r [kV kv.1,kv.2]) vs kvs/\∀l,H l=none->ShD K (upd H l (.dK (dR [] kvs))) l S:=by
 obtain⟨o,vs,p,e,r⟩:=h;obtain⟨kvs,h1,h2⟩:=uJ r;refine⟨o,vs,kvs,p,e,h1,fun l hl=>?_⟩;have s:=aw.upd (o:=.dK (dR [] kvs)) hl;rw[wG (by rw[zu h2];exact yt nd)]at s ⊢;exact⟨kvs,af,Paired.imp (fun _ _=>ShV.tk s.tk) h2⟩
theorem zw{K:Frag}{H:Hp}{x:Str}{l:Addr}{kvs:List (Key×V)}{S:Sh}(r:Paired (ShV K H) kvs S)(h0:SqT K H l [.int 0,.int 1]):
  ∃p,(eu kvs (Sum.inr x)).getD (.ref l)=.ref p/\SqT K H p [.int (aG S x).1,.int (aG S x).2]:=by
 rcases jO (x:=x) r with⟨h1,h2⟩|⟨p,f,h1,h2,h3⟩
 ·refine⟨l,by rw[h1];rfl,?_⟩;have e:aG S x=(0,1):=by unfold aG;rw[h2];rfl
  rw[e];exact h0
 ·refine⟨p,by rw[h1];rfl,?_⟩;have e:aG S x=f.2:=by unfold aG;rw[h2];rfl
  rw[e];exact h3
theorem EC{K:Frag}{H:Hp}{x:Str}{kvs:List (Key×V)}{S:Sh}(r:Paired (ShV K H) kvs S)(hin:x∈S.map (·.1)):
  ∃p,eu kvs (Sum.inr x)=some (.ref p)/\SqT K H p [.int (aG S x).1,.int (aG S x).2]:=by
 rcases jO (x:=x) r with⟨h1,h2⟩|⟨p,f,h1,h2,h3⟩
 ·have:=Hn.mp h2 _ (lL hin);simp at this
 ·have e:aG S x=f.2:=by unfold aG;rw[h2];rfl
  exact⟨p,h1,by rw[e];exact h3⟩
theorem qg{l:List Str}(h:∀x∈l,PyData.canLay0 (.str x)=true):PyData.canLayAll0 (l.map PyData.str)=true:=by
 induction l with
 |nil=>rfl
 |cons x l ih=>show(PyData.canLay0 (.str x)&&PyData.canLayAll0 (l.map PyData.str))=true;rw[h x (F7 ..),ih fun y hy=>h y (F1 _ hy)];rfl
theorem jV{K:Frag}{H:Hp}:∀(l:List Str),eA K H (l.map PyData.str) (l.map V.str)
 | []=>.nil
 |_::l=>.cons (.str _) (jV l)
noncomputable def DW(t b:Int):Int×Int:=(frT t b,frB t b)
theorem Cj(t:Int){b:Int}(h:0<b):uy (DW t b):=oG t h
abbrev ltF(f g:Int×Int):Prop:=f.1*g.2<g.1*f.2
noncomputable def gT:Key->PyData
 | .inl i=>.int i
 | .inr x=>.str x
noncomputable def n4(ks:List Key):PyData:=.tuple (ks.map gT)
noncomputable def k8(c:List (List Key)):PyData:=.tuple (c.map n4)
noncomputable def wK:Key->Bool
 | .inl _=>true
 | .inr x=>PyData.canLay0 (.str x)
theorem xJ(a b:Key):PyData.eqv (gT a) (gT b)=decide (a=b):=by
 cases a with
 |inl i=>
  cases b with
  |inl j=>
   show(i==j)=_;by_cases h:i=j
   ·subst h;simp
   ·simp[h]
  |inr y=>rfl
 |inr x=>
  cases b with
  |inl j=>rfl
  |inr y=>
   show(x==y)=_;by_cases h:x=y
   ·subst h;simp
   ·simp[h]
theorem xp:∀(a b:List Key),PyData.eqvAll (a.map gT) (b.map gT)=decide (a=b)
 | [],[]=>rfl
 | [],_::_=>rfl
 |_::_,[]=>rfl
 |x::a,y::b=>by
  show(PyData.eqv (gT x) (gT y)&&PyData.eqvAll (a.map gT) (b.map gT))=_;rw[xJ,xp a b];by_cases h1:x=y
  ·by_cases h2:a=b
   ·simp[h1,h2]
   ·simp[h1,h2]
  ·simp[h1]
theorem qr:∀(a b:List (List Key)),PyData.eqvAll (a.map n4) (b.map n4)=decide (a=b)
 | [],[]=>rfl
 | [],_::_=>rfl
 |_::_,[]=>rfl
 |x::a,y::b=>by
  show(PyData.eqvAll (x.map gT) (y.map gT)&&PyData.eqvAll (a.map n4) (b.map n4))=_;rw[xp,qr a b];by_cases h1:x=y
  ·by_cases h2:a=b
   ·simp[h1,h2]
   ·simp[h1,h2]
  ·simp[h1]
theorem Cr(a b:List (List Key)):PyData.eqv (k8 a) (k8 b)=decide (a=b):=qr a b
theorem xI:∀(r:List Key),(∀k∈r,wK k=true)->PyData.canLayAll0 (r.map gT)=true
 | [],_=>rfl
 |k::r,h=>by
  have h1:PyData.canLay0 (gT k)=true:=by
   have:=h k (F7 ..);cases k with
   |inl i=>rfl
   |inr x=>exact this
  show(PyData.canLay0 (gT k)&&PyData.canLayAll0 (r.map gT))=true;rw[h1,xI r fun x hx=>h x (F1 _ hx)];rfl
theorem oC:∀(c:List (List Key)),(∀r∈c,∀k∈r,wK k=true)->PyData.canLayAll0 (c.map n4)=true
 | [],_=>rfl
 |r::c,h=>by show(PyData.canLayAll0 (r.map gT)&&PyData.canLayAll0 (c.map n4))=true;rw[xI r (h r (F7 ..)),oC c fun x hx=>h x (F1 _ hx)];rfl
theorem xQ:∀(r:List Key),PyData.depthAll (r.map gT)=0
 | []=>rfl
 |k::r=>by show max (gT k).depth (PyData.depthAll (r.map gT))=0;rw[xQ r];cases k<;>rfl
theorem vF:∀(c:List (List Key)),PyData.depthAll (c.map n4)<=1
 | []=>by show(0:Nat)<=1;decide
 |r::c=>by
  have h:=vF c;have h2:(n4 r).depth<=1:=by show PyData.depthAll (r.map gT)+1<=1;rw[xQ];decide
  show max _ _<=1;exact Nat.max_le.mpr ⟨h2,h⟩
theorem xR(c:List (List Key)):(k8 c).depth<=2:=by have:=vF c;show PyData.depthAll (c.map n4)+1<=2;omega
section
variable{P:Program}{w:World}
inductive dh(P:Program)(w:World)(h:Heap):List (List Key)->List Value->Prop
 |nil:dh P w h [] []
 |cons {k:List Key} {a:Addr} {ks:List (List Key)} {vs:List Value}:IsTupleKey (ba P w) h k a->dh P w h ks vs->dh P w h (k::ks) (.ref a::vs)
def gp(P:Program)(w:World)(h:Heap)(c:List (List Key))(a:Addr):Prop:=
 (∀r∈c,∀k∈r,wK k=true)/\∃ob its n,h.get? a=some ob/\ob.cls=.type "tuple"/\ob.data=.seq its n/\dh P w h c its.toList
theorem dh.one{h:Heap}{x y:List (List Key)}{us:List Value}(p:dh P w h x us)(q:dh P w h y us):x=y:=by
 induction p generalizing y with
 |nil=>cases q;rfl
 |cons p1 _ ih=>
  cases q with
  |cons q1 q2=>rw[p1.inj q1,ih q2]
theorem gp.one{h:Heap}{x y:List (List Key)}{a:Addr}(p:gp P w h x a)(q:gp P w h y a):x=y:=by obtain⟨_,ob,its,n,p1,_,p3,p4⟩:=p;obtain⟨_,ob',its',n',q1,_,q3,q4⟩:=q;rw[p1]at q1;cases q1;rw[p3]at q3;injection q3 with e _;subst e;exact p4.one q4
theorem dh.stay{h h':Heap}{c:List (List Key)}{us:List Value}{d:Addr}{o:Obj}{es:Array DictEntry}{ep:Nat}(p:dh P w h c us)(ho:h.get? d=some o)(hd:o.data=.dict es ep)(hs:Heap.SameBut d h h'):dh P w h' c us:=by
 induction p with
 |nil=>exact .nil
 |cons p1 _ ih=>exact .cons (p1.keeps ho hd hs) ih
theorem gp.stay{h h':Heap}{c:List (List Key)}{a d:Addr}{o:Obj}{es:Array DictEntry}{ep:Nat}(p:gp P w h c a)(ho:h.get? d=some o)(hd:o.data=.dict es ep)(hs:Heap.SameBut d h h'):gp P w h' c a:=by
 obtain⟨l,ob,its,n,p1,p2,p3,p4⟩:=p;have ne:a≠d:=fun z=>by rw[z,ho]at p1;cases p1;rw[hd]at p3;cases p3
 exact⟨l,ob,its,n,(hs.2 a ne).trans p1,p2,p3,p4.stay ho hd hs⟩
theorem gp.tyIs{s:Shared}{c:List (List Key)}{a:Addr}(p:gp P w s.heap c a):s.TypeIs (.ref a) "tuple":=by obtain⟨_,ob,_,_,p1,p2,_⟩:=p;exact⟨ob,p1,p2⟩
theorem qQ{h:Heap}{ks:List Key}{us:List Value}(hI:ItemsAre (ba P w) ks us):∃as,ReadsAll h us (ks.map gT) as:=by
 induction hI with
 |nil=>exact⟨_,.nil⟩
 |cons p1 p2 ih=>
  obtain⟨as,r⟩:=ih;rcases bQ p1 with⟨i,t,rfl,rfl⟩|⟨x,t,rfl,rfl⟩
  ·exact⟨_,.cons (.int i t) r⟩
  ·exact⟨_,.cons (.str x t) r⟩
theorem we{h:Heap}{c:List (List Key)}{us:List Value}(hI:dh P w h c us):∃as,ReadsAll h us (c.map n4) as:=by
 induction hI with
 |nil=>exact⟨_,.nil⟩
 |cons p1 p2 ih=>obtain⟨as,r⟩:=ih;obtain⟨ob,its,n,q1,q2,q3,q4⟩:=p1;obtain⟨bs,r2⟩:=qQ (h:=h) q4;exact⟨_,.cons (.tuple q1 q2 q3 r2) r⟩
theorem gp.reads{h:Heap}{c:List (List Key)}{a:Addr}(p:gp P w h c a):∃as,Reads h (.ref a) (k8 c) as:=by obtain⟨_,ob,its,n,p1,p2,p3,p4⟩:=p;obtain⟨as,r⟩:=we p4;exact⟨_,.tuple p1 p2 p3 r⟩
noncomputable def um(P:Program)(w:World)(c:List (List Key)):Int:=reduceHash (Builtin.Tuple.tupleHashOf (c.map (tupleKeyHash (ba P w))))
noncomputable def iL(c:List (List Key)):Nat:=(c.map fun r=>r.length+1).sum
variable{A:Around}{E:Value->Shared->Prop}{s:Shared}
theorem AU{c:List (List Key)}{a:Addr}{Q:Int->Shared->Prop}(room:A.units+3<cLine)(p:gp P w s.heap c a)(q:Q (um P w c) {s with toks:=s.toks+(iL c+1)}):
  wpAny (model P w) A (pyHash (.ref a)) Q E s:=by
 have ty:=p.tyIs;obtain⟨_,ob,its,n,p1,_,p3,p4⟩:=p;unfold pyHash
 first|unfold pyHashByItsType|skip
 first|refine FZ (wpAny_cRoomFor_or (.inr (by omega)) ?_)|skip
 refine FZ (wpAny_specialOf ty F.slot_tuple_hash.lookup ?_);show wpAny _ _ (if(some (Value.builtin "tuple.__hash__")==some Value.none)=true then _ else _) Q E s;rw[F6 (by rw[beq_builtin_none];exact Gv)];refine FZ (wpAny_specialOf ty F.slot_tuple_hash.lookup ?_);show wpAny _ _ (callSpecialIfBoundUnlessNone? (.ref a) "__hash__" _>>= _) Q E s;refine FZ (wpAny_callSpecialIfBoundUnlessNone?_slot ty F.slot_tuple_hash (wpAny_call_entry F.slot_tuple_hash ty F.entry_tuple_hash ?_ (F.args_tuple_hash_1 _)));show wpAny _ _ (Builtin.Tuple.tupleItemsOf (.ref a)>>= _) _ _ s;refine FZ (wpAny_tupleItemsOf p1 p3 (FZ ?_));rw[<-Array.forIn_toList];refine wpAny_forIn_list _ (fun left (acc:Array Int) s'=>∃c1 c2,c=c1++c2/\dh P w s.heap c2 left/\acc.toList=c1.map (tupleKeyHash (ba P w))/\s'={s with toks:=s.toks+iL c1}) _ ?_ ?_ _ _ ⟨[],c,rfl,p4,rfl,rfl⟩
 ·rintro u left acc s' ⟨c1,c2,rfl,r,e,rfl⟩;cases r with
  | @cons k b ks vs r1 r2=>
   refine FZ (wpAny_pyHash_tuple (ks:=k) (by simp only[Around.in1_units];omega) r1 ?_);have fin:∃d1 d2,c1++k::ks=d1++d2/\dh P w s.heap d2 left/\(acc.push (tupleKeyHash (ba P w) k)).toList=d1.map (tupleKeyHash (ba P w))/\({s with toks:=s.toks+iL c1+(k.length+1)}:Shared)={s with toks:=s.toks+iL d1}:=
    ⟨c1++[k],ks,by simp,r2,by simp[e],by simp[iL,Nat.add_assoc]⟩
   first
    |exact F3 fin
    |exact FZ (F3 (F3 fin))
 ·rintro acc s' ⟨c1,c2,rfl,r,e,rfl⟩;cases r;rw[GF]at q;show wpAny _ _ (retInt (Builtin.Tuple.tupleHashOf acc.toList)) _ _ _;rw[e];refine wpAny_ret_mkInt ?_;unfold um reduceHash at q;generalize Builtin.Tuple.tupleHashOf (c1.map (tupleKeyHash (ba P w)))=z at q ⊢;show wpAny _ _ (if(decide (-(2:Int)^63<=z)&&decide (z<2^63))=true then _ else _) Q E _;by_cases hz:(decide (-(2:Int)^63<=z)&&decide (z<2^63))=true
  ·rw[F8 hz]at q ⊢;exact F3 (by simpa[Nat.add_assoc]using q)
  ·rw[F6 hz]at q ⊢;exact FZ (wpAny_rule (F3 (by simpa[Nat.add_assoc]using q)))
theorem D7{x y:List (List Key)}{a b:Addr}{Q:Bool->Shared->Prop}(room:A.units+3<cLine)(p:gp P w s.heap x a)(q:gp P w s.heap y b)(h:Q (decide (x=y)) s):wpAny (model P w) A (eqBool (.ref a) (.ref b)) Q E s:=by obtain⟨as,ra⟩:=p.reads;obtain⟨bs,rb⟩:=q.reads;have dx:=xR x;have dm:=Nat.min_le_left (k8 x).depth (k8 y).depth;rw[<-Cr]at h;exact SeqAt.eqAt_reads _ _ A s _ _ _ _ ra rb (oC x p.1) (oC y q.1) (by omega) P w E Q h
end
section
variable{P:Program}{w:World}{A:Around}{E:Value->Shared->Prop}{s:Shared}
theorem yj{k:List Key}{a:Addr}(m:Nat){Q:Bool->Shared->Prop}(p:IsTupleKey (ba P w) s.heap k a)(q:Q true s):wpAny (model P w) A (eqIsQuiet (m+1) (.ref a)) Q E s:=by
 have ty:=p.typeIs;obtain⟨ob,its,n,p1,_,p3,p4⟩:=p;unfold eqIsQuiet;refine FZ (wpAny_specialOf ty F.slot_tuple_eq.lookup ?_);show wpAny _ _ (isInstance (.ref a) (.type "tuple")>>= _) _ _ s;refine FZ (wpAny_isInstance ty isSubtype_tuple_tuple ?_);simp only[Bool.not_true,Hq,if_false];refine FZ (wpAny_seqItems p1 p3 (FZ ?_));show wpAny _ _ (forIn its _ _) _ _ s;rw[<-Array.forIn_toList];refine wpAny_forIn_list _ (fun left r s'=>r.1=none/\s'=s/\∀v∈left,carriedByValue v=true) _ ?_ ?_ _ _ ⟨rfl,rfl,p4.byValue⟩
 ·rintro u left r s' ⟨hr,rfl,all⟩;rw[eqIsQuiet_byValue m (all u F7)];refine FZ (F3 ?_);simp only[Bool.not_true,Hq,if_false];exact F3 ⟨rfl,rfl,fun z hz=>all z (F1 _ hz)⟩
 ·rintro⟨r1,r2⟩ s' ⟨hr,rfl,_⟩;simp only at hr;subst hr;exact F3 q
theorem yP{c:List (List Key)}{a:Addr}{Q:Bool->Shared->Prop}(p:gp P w s.heap c a)(q:Q true s):wpAny (model P w) A (eqIsQuiet 8 (.ref a)) Q E s:=by
 have ty:=p.tyIs;obtain⟨_,ob,its,n,p1,_,p3,p4⟩:=p;unfold eqIsQuiet;refine FZ (wpAny_specialOf ty F.slot_tuple_eq.lookup ?_);show wpAny _ _ (isInstance (.ref a) (.type "tuple")>>= _) _ _ s;refine FZ (wpAny_isInstance ty isSubtype_tuple_tuple ?_);simp only[Bool.not_true,Hq,if_false];refine FZ (wpAny_seqItems p1 p3 (FZ ?_));show wpAny _ _ (forIn its _ _) _ _ s;rw[<-Array.forIn_toList];refine wpAny_forIn_list _ (fun left r s'=>r.1=none/\s'=s/\∃c2,dh P w s.heap c2 left) _ ?_ ?_ _ _ ⟨rfl,rfl,c,p4⟩
 ·rintro u left r s' ⟨hr,rfl,c2,r2⟩;cases r2 with
  |cons r3 r4=>refine FZ (yj 6 r3 ?_);simp only[Bool.not_true,Hq,if_false];exact F3 ⟨rfl,rfl,_,r4⟩
 ·rintro⟨r1,r2⟩ s' ⟨hr,rfl,_⟩;simp only at hr;subst hr;exact F3 q
end
noncomputable def xX(P:Program)(w:World):HeapKind P w (List (List Key)) where
 is:=gp P w
 hash:=um P w
 draws:=fun c=>iL c+1
 room:=fun A=>A.units+3<cLine
 inj:=fun p q=>p.one q
 keeps:=fun p ho hd hs=>p.stay ho hd hs
 pyHash:=fun hu p q=>AU hu p q
 eqBool:=fun hu p q h=>D7 hu p q h
 quiet:=fun p q=>yP p q
noncomputable abbrev Col:=List (List Key)
noncomputable abbrev CT:=List (Col×Addr×V)
noncomputable def jM(a:Addr)(o:Obj):HO:=.ext fun h=>h.get? a=some o
theorem xD{P:Program}{w:World}{H:Hp}{h:Heap}{a:Addr}{o:Obj}(e:h.get? a=some o):bN P w H h a (jM a o):=⟨e,⟨o,e⟩,fun _ _ e1 k=>k o e1⟩
noncomputable def kZ:Obj:={cls:=.type "dict",data:=.dict #[]}
def CTv:CT->List (Col×Addr×Value)->Prop:=Paired fun(t:Col×Addr×V) (v:Col×Addr×Value)=>t.1=v.1/\t.2.1=v.2.1/\RelV t.2.2 v.2.2
structure xf(P:Program)(w:World)(o:Obj)(T:CT):Prop where
 ex:o.ExactDict
 len:T.length<=sizeLine
 es:∃es ep vs,o.data=.dict es ep/\es.toList=vs.map (entryOfKey (xX P w))/\CTv T vs/\(vs.map (·.1)).Nodup
theorem wX(P:Program)(w:World):xf P w kZ []:=⟨⟨rfl,rfl,rfl⟩,GO _,#[],0,[],rfl,rfl,.nil,List.nodup_nil⟩
def eO(K:Frag)(H:Hp)(b:Addr)(c:Col):Prop:=(∀r∈c,∀k∈r,wK k=true)/\∃xs,SqT K H b xs/\Paired (fun(v:V) (r:List Key)=>∃a,v=.ref a/\SqT K H a (r.map kV)) xs c
theorem eO.tk{K:Frag}{H H':Hp}{b:Addr}{c:Col}(t:TK H H')(h:eO K H b c):eO K H' b c:=by obtain⟨l,xs,h1,h2⟩:=h;exact⟨l,xs,t.sq h1,Paired.imp (fun _ _ ⟨a,e,z⟩=>⟨a,e,t.sq z⟩) h2⟩
theorem TK.obj{H:Hp}{D:Addr}{ob:Obj}{o:HO}(hD:H D=some (jM D ob)):TK H (upd H D o):=
 ⟨fun _ _ e=>by rw[az (hW e hD (fun z=>nomatch z))];exact e,fun _ _ _ e=>by rw[az (hW e hD (fun z=>nomatch z))];exact e⟩
noncomputable def atT(T:CT)(c:Col):Option V:=(T.find? fun t=>decide (t.1=c)).map (·.2.2)
noncomputable def qX(T:CT)(c:Col)(b:Addr)(v:V):CT:=if(T.any fun t=>decide (t.1=c))=true then T.map (fun t=>if t.1=c then(t.1,t.2.1,v)else t)else T++[(c,b,v)]
section
variable{X:Cx}{pins:List (Addr×Obj)}{σ:St}{H:Hp}{s:Shared}
theorem eO.is{b:Addr}{c:Col}(I:Inv X pins σ H s)(h:eO X.K H b c):gp X.prog X.w s.heap c b:=by
 obtain⟨l,xs,h1,h2⟩:=h;obtain⟨its,rv,⟨ob,e1,e2,n,e3⟩,_⟩:=I.tuple h1;refine⟨l,ob,its.toArray,n,e1,e2,e3,?_⟩;have key:∀{xs:List V}{its:List Value}{c:Col},Vals xs its->Paired (fun(v:V) (r:List Key)=>∃a,v=.ref a/\SqT X.K H a (r.map kV)) xs c->dh X.prog X.w s.heap c its:=by
  intro xs its c rv pr
  induction pr generalizing its with
  |nil=>cases rv;exact .nil
  |cons p1 _ ih=>
   obtain⟨a,rfl,ha⟩:=p1;cases rv with
   |cons r1 r2=>cases r1;obtain⟨its2,rv2,⟨ob2,f1,f2,n2,f3⟩,_⟩:=I.tuple ha;exact .cons ⟨ob2,its2.toArray,n2,f1,f2,f3,by simpa using ng rv2⟩ (ih r2)
 simpa using key rv h2
theorem Cq{T:CT}{vs:List (Col×Addr×Value)}(hI:CTv T vs):∀v∈vs,∃t∈T,t.1=v.1/\t.2.1=v.2.1:=by
 induction hI with
 |nil=>exact fun v hv=>by cases hv
 |cons a b ih=>
  intro v hv;rcases Gg.mp hv with e|e
  ·subst e;exact⟨_,F7 ..,a.1,a.2.1⟩
  ·obtain⟨t,ht,h⟩:=ih v e;exact⟨t,F1 _ ht,h⟩
theorem xf.dict{d:Addr}{o:Obj}{T:CT}(I:Inv X pins σ H s)(hd:H d=some (jM d o))(ho:xf X.prog X.w o T)(hk:∀t∈T,eO X.K H t.2.1 t.1):∃vs,CTv T vs/\s.heap.DictOfH (xX X.prog X.w) d vs:=by obtain⟨es,ep,vs,h1,h2,h3,h4⟩:=ho.es;have e:s.heap.get? d=some o:=(I.hok d _ hd).1;refine⟨vs,h3,o,es,ep,e,ho.ex,h1,h2,fun v hv=>?_,h4⟩;obtain⟨t,ht,e1,e2⟩:=Cq h3 v hv;rw[<-e1,<-e2];exact(hk t ht).is I
theorem D4{T:CT}{vs:List (Col×Addr×Value)}(h:CTv T vs):T.length=vs.length:=Gi h
theorem C0{c:Col}{T:CT}{vs:List (Col×Addr×Value)}(hI:CTv T vs):(atT T c=none/\atKey vs c=none)\/∃v p,atT T c=some v/\atKey vs c=some p/\RelV v p.2:=by
 induction hI with
 |nil=>exact .inl ⟨rfl,rfl⟩
 | @cons t u _ _ a b ih=>
  by_cases h:t.1=c
  ·have h':u.1=c:=a.1.symm.trans h;refine .inr ⟨t.2.2,u.2,?_,?_,a.2.2⟩
   ·simp[atT,GJ,h]
   ·simp[atKey,GJ,h']
  ·have h':¬u.1=c:=fun z=>h (a.1.trans z);have ih:=ih;simpa[atT,atKey,GJ,h,h']using ih
theorem D5{c:Col}{T:CT}{vs:List (Col×Addr×Value)}(hI:CTv T vs):(T.any fun t=>decide (t.1=c))=(atKey vs c).isSome:=by
 induction hI with
 |nil=>exact rfl
 | @cons t u _ _ a b ih=>
  have ih:=ih;rw[Hw,ih];by_cases h:t.1=c
  ·have h':u.1=c:=a.1.symm.trans h;simp[atKey,GJ,h,h']
  ·have h':¬u.1=c:=fun z=>h (a.1.trans z);simp[atKey,GJ,h,h']
theorem D3{c:Col}{v:V}{u:Value}(r:RelV v u){T:CT}{vs:List (Col×Addr×Value)}(hI:CTv T vs):CTv (T.map fun t=>if t.1=c then(t.1,t.2.1,v)else t) (vs.map (putAt c u)):=by
 induction hI with
 |nil=>exact .nil
 | @cons t q _ _ a b ih=>
  rw[F9,F9];refine .cons ?_ (ih);unfold putAt;by_cases h:t.1=c
  ·rw[F8 h,F8 (a.1.symm.trans h)];exact⟨a.1,a.2.1,r⟩
  ·rw[F6 h,F6 (fun z=>h (a.1.trans z))];exact a
theorem D1{c:Col}{b:Addr}{v:V}{u:Value}(r:RelV v u){T:CT}{vs:List (Col×Addr×Value)}(h:CTv T vs):CTv (qX T c b v) (storedH vs c b u):=by
 unfold qX storedH;rw[D5 h];split
 ·exact D3 r h
 ·exact Paired.app h (.cons ⟨rfl,rfl,r⟩ .nil)
theorem zJ(T:CT)(c:Col)(b:Addr)(v:V):(qX T c b v).length<=T.length+1:=by
 unfold qX;split
 ·rw[FY];omega
 ·rw[Gd];simp
end
def Di:TE:=fun _ H Q=>∀p,H p=none->(p==sysModules)=false->Q (.ref p) (upd H p (jM p kZ))
def x5(P:Program)(w:World)(K:Frag)(H:Hp)(d:Addr)(o:Obj)(T:CT):Prop:=H d=some (jM d o)/\xf P w o T/\(d==sysModules)=false/\∀t∈T,eO K H t.2.1 t.1
def Ez(P:Program)(w:World)(K:Frag)(td ty:TE):TE:=fun σ H Q=>td σ H fun x H1=>ty σ H1 fun y H2=>∃d o T b c v,x=.ref d/\x5 P w K H2 d o T/\y=.ref b/\eO K H2 b c/\atT T c=some v/\Q v H2
def EG(P:Program)(w:World)(K:Frag)(td ty tv:TE):TS:=fun D σ H=>tv σ H fun v H1=>td σ H1 fun x H2=>ty σ H2 fun y H3=>∃d o T b c,x=.ref d/\x5 P w K H3 d o T/\y=.ref b/\eO K H3 b c/\T.length<1000/\∀o',xf P w o' (qX T c b v)->D.nx σ (upd H3 d (jM d o'))
section
variable{X:Cx}{o i e f value:Expr}{td ty tv tx:TE}{pos pos' apos cpos:Pos}
theorem zU:PE X (.Dict [] [] pos) Di:=fun pins s σ H Q I h=>wpAny_Dict_empty ⟨.ref s.heap.objs.size,_,I.laid (a:=s.heap.objs.size) (o:=jM s.heap.objs.size kZ) (t':=s.toks) (fun _ _ q=>F0 _ q) (F4 _) (xD (Gm _ rfl)),rfl,h _ (I.hok.fresh (F4 _)) (G6.mpr (Hg (Gz I.big)))⟩
theorem xB(hu:X.A.units+64<cLine)(ho:PE X o td)(hi:PE X i ty)(hs:Ee i):PE X (.Subscript o i pos) (Ez X.prog X.w X.K td ty):=by
 intro pins s σ H Q I h;refine xm PySem.F.slot_dict_getitem.lookup hs (thn (ho pins s σ H _ I h) fun u s1 hPz=>L2.ep3 hPz fun x H1 I1 rx q1=>thn (hi pins s1 σ H1 _ I1 q1) fun iv s2 hPz=>?_);obtain⟨y,H2,I2,ry,d,ob,T,b,c,v,ex,hc,ey,hb,hv,q2⟩:=hPz;subst ex ey;cases rx;cases ry;obtain⟨h1,h2,h3,h4⟩:=hc;obtain⟨vs,rv,DD⟩:=h2.dict I2 h1 h4;rcases C0 (c:=c) rv with⟨z,_⟩|⟨v',p,z1,z2,z3⟩
 ·rw[hv]at z;cases z
 ·rw[hv]at z1;cases z1;exact⟨DD.typeIs,wpAny_getItem_heap (show X.A.in1.units+3<cLine by simp only[Around.in1_units];omega) (hb.is I2) DD z2 ⟨v,H2,I2.tok _,z3,q2⟩⟩
theorem BB(hu:X.A.units+64<cLine)(ho:PE X o td)(hi:PE X i ty)(hv:PE X value tv)(hs:swapsWith value (some (.Subscript o i pos')) pos.line X.env=pure false):
  PS X (.Assign [.Subscript o i pos'] value pos) (EG X.prog X.w X.K td ty tv):=by
 intro pins s σ H D I h;refine wpAny_Assign_Subscript (thn (hv pins s σ H _ I h) fun r s1 hPz=>L2.ep3 hPz fun v H1 I1 rv q1=>thn (ho pins s1 σ H1 _ I1 q1) fun u s2 hPz=>L2.ep3 hPz fun x H2 I2 rx q2=>thn (hi pins s2 σ H2 _ I2 q2) fun iv s3 hPz=>?_) hs;obtain⟨y,H3,I3,ry,d,ob,T,b,c,ex,hc,ey,hb,hl,q3⟩:=hPz;subst ex ey;cases rx;cases ry;obtain⟨h1,h2,h3,h4⟩:=hc;obtain⟨vs,rT,DD⟩:=h2.dict I3 h1 h4;have lt:=D4 rT;have sl:(1000:Nat)<=sizeLine:=by decide
 refine wpAny_setItem_heap (hsz:=by omega) (show X.A.in1.units+3<cLine by simp only[Around.in1_units];omega) (hb.is I3) DD fun h' DD' hs'=>?_;obtain⟨ob',es',ep',e1,e2,e3,e4,_,e6⟩:=DD';have ho':xf X.prog X.w ob' (qX T c b v):=⟨e2,by have:=zJ T c b v;omega,es',ep',_,e3,e4,D1 rv rT,e6⟩;exact⟨σ,_,ug I3 (by rw[h1];exact True.intro) hs' ⟨ob',e1⟩ (xD e1),q3 ob' ho'⟩
end
end L2
namespace PySem
namespace F
theorem wI:typeLookup (.type "list_reverseiterator") "__len__"=pure none:=by rw[typeLookup_type,builtinLookup_eq_fast];kernel_rfl
theorem vh:typeLookup (.type "list_reverseiterator") "__length_hint__"=pure (some (.builtin "list_reverseiterator.__length_hint__")):=by rw[typeLookup_type,builtinLookup_eq_fast];kernel_rfl
theorem Bj:isSubtype (.type "list_reverseiterator") (.type "list_reverseiterator")=pure true:=by rw[isSubtype_type];kernel_rfl
end F
section
variable{prog:Program}{w:World}{A:Around}{E:Value->Shared->Prop}{s:Shared}{r l:Addr}{items:Array Value}
theorem zD{Q:Bool->Shared->Prop}(ty:s.TypeIs (.ref r) "list_reverseiterator")(q:Q false s):wpAny (model prog w) A (Builtin.List.listLengthHint (.ref r)) Q E s:=by
 unfold Builtin.List.listLengthHint;refine FZ (wpAny_specialOf ty F.wI ?_)
 wp_delta
 refine wpAny_ite_split (fun z=>absurd z (by decide+kernel)) (fun _=>?_);refine wpAny_ite_split (fun z=>absurd z (by decide)) (fun _=>?_);refine FZ (wpAny_specialOf ty F.vh ?_);generalize hid:("list_reverseiterator.__length_hint__":String)=id0
 wp_delta
 rw[show splitId id0=some ("list_reverseiterator","__length_hint__")from by subst hid;decide+kernel];subst hid;refine FZ (wpAny_isInstance (b:=true) (T:="list_reverseiterator") ty F.Bj ?_);refine wpAny_ite_split (fun z=>absurd z (by decide)) (fun _=>?_);refine wpAny_ite_split (fun _=>?_) (fun z=>absurd (by decide+kernel) z);refine wpAny_ite_split (fun z=>absurd z (by decide+kernel)) (fun _=>?_);exact F3 q
theorem Bv{Q:Option Value->Shared->Prop}(hh:A.handled=none)(hit:s.heap.IsRevIter r l (-1))
  (q:∀h',(∀b o,s.heap.get? b=some o->h'.get? b=some o)->Q none {s with heap:=h'}):wpAny (model prog w) A (pyNext (.ref r)) Q E s:=by
 obtain⟨ob,g1,g2,g3⟩:=id hit;unfold pyNext;refine FZ (wpAny_attempt (wpAny_callSpecial?_slot (name:=Str.ofString "__next__") hit.typeIs F.slot_lri_next (wpAny_call_entry F.slot_lri_next hit.typeIs F.entry_lri_next ?_ (F.args_lri_next_1 _))));unfold Builtin.«list_reverseiterator.__next__»;refine FZ (wpAny_of_eq (a:=(Value.ref r,[])) rfl ?_)
 try dsimp only
 refine FZ (wpAny_field g1 g3 (x:=rawInt (-1)) rfl ?_);show wpAny _ _ (if(-1:Int)<0 then _ else _) _ _ s;rw[F8 (by decide)];refine FZ (wpAny_rule ?_)
 first
 |show wpAny _ _ (newExc (.type "StopIteration") []>>= _) _ _ _
 |(refine FZ ?_;show wpAny _ _ (newExc (.type "StopIteration") []>>= _) _ _ _)
 simp only[newExc,newTuple];refine FZ (FZ (wpAny_newObj_type ?_ (by size_fits)));refine FZ (m:=firstArgMember _ _) (wpAny_of_eq (a:=Value.none) (by first|rfl|(simp only[firstArgMember];rfl)) (wpAny_newObj_type ?_ (by size_fits)));simp only[raiseNew];refine FZ (wpAny_handled ?_)
 first|rw[show A.in1.handled=none from hh]|rw[hh]
 refine FZ (F3 (wpAny_throw ?_));refine FZ (wpAny_isInstance (b:=true) (T:="StopIteration") ⟨_,Gm _ rfl,rfl⟩ isSubtype_stop ?_);exact F3 (q _ fun b o e=>F0 _ (F0 _ e))
theorem zC{R:Result->Shared->Prop}(hh:A.handled=none)(hne:l≠r){S:Addr}(nr:S≠r)(nl:S≠l)(hn:items.size<=sizeLine):
  ∀(m:Nat)(s1:Shared)(acc:Array Value)(c:Nat),m<=items.size->s1.heap.IsRevIter r l ((m:Int)-1)->s1.heap.IsList l items->s1.heap.get? S=some {cls:=.type "list",dict:=none,data:=.seq acc c,slots:= #[]}->
   acc.toList=(items.toList.drop m).reverse->
   (∀h' tk acc' c',(∀b o,b≠r->b≠S->s1.heap.get? b=some o->h'.get? b=some o)->(∃o,h'.get? r=some o)->h'.get? S=some {cls:=.type "list",dict:=none,data:=.seq acc' c',slots:= #[]}->acc'.toList=items.toList.reverse->R (.ok (.ret .none)) {s1 with heap:=h',toks:=tk})->
   codeAny (model prog w) A (.builtin "list.extend.loop" ⟨[.ref S,.ref r,.none],[]⟩) R s1:=by
 intro m
 induction m with
 |zero=>intro s1 acc c _ it il g e q;refine codeAny_builtin F.entry_extend_loop ?_;rw[Around.under_plainId F.plain_extend_loop _];show wpAny _ A.in1 (pyNext (.ref r)>>= _) _ _ s1;refine FZ (Bv (A:=A.in1) hh (by simpa using it) fun h' k=>?_);obtain⟨ob,g1,_⟩:=it;exact F3 (q h' _ acc c (fun b o _ _ e=>k b o e) ⟨_,k _ _ g1⟩ (k _ _ g) (by rw[e,List.drop_zero]))
 |succ m ih=>
  intro s1 acc c hm it il g e q;have hx:items[m]?=some (items[m]'(by omega)):=Array.getElem?_eq_getElem (by omega);refine codeAny_builtin F.entry_extend_loop ?_;rw[Around.under_plainId F.plain_extend_loop _];show wpAny _ A.in1 (pyNext (.ref r)>>= _) _ _ s1;have it':s1.heap.IsRevIter r l ((m:Nat):Int):=by have e1:(((m+1:Nat):Int)-1)=((m:Nat):Int):=(by omega);rw[e1]at it;exact it
  refine FZ (wpAny_pyNext_rev_item it' il hx fun h' it2 sb=>?_);have g2:h'.get? S=some {cls:=.type "list",dict:=none,data:=.seq acc c,slots:= #[]}:=(sb.2 S nr).trans g;have la:acc.size=items.size-(m+1):=by have:=congrArg List.length e;simp only[Hj,List.length_reverse,List.length_drop]at this;exact this
  show wpAny _ A.in1 (updateSeq S (·.push (items[m]'(by omega)))>>= _) _ _ _;refine FZ (wpAny_updateSeq g2 rfl (F3 ⟨plainId_quiet F.plain_extend_loop _,?_⟩) (by rw[la];omega) (by show(acc.push _).size<=sizeLine+1;rw[Array.size_push,la];omega));have o2:∀b o,b≠S->h'.get? b=some o->(h'.update S (Obj.mapSeq (·.push (items[m]'(by omega))))).get? b=some o:=fun b o hb e=>(GW _ _ (Hg hb)).trans e;refine ih _ (acc.push (items[m]'(by omega))) _ (by omega) (it2.at fun o e=>o2 r o (Hg nr) e) (il.at fun o e=>o2 l o (Hg nl) ((sb.2 l hne).trans e)) (G3 _ g2 rfl) ?_ fun h3 tk3 acc3 c3 k3=>q h3 tk3 acc3 c3 fun b o hb hS e=>k3 b o hb hS (o2 b o hS ((sb.2 b hb).trans e));rw[Array.toList_push,e,List.drop_eq_getElem_cons (l:=items.toList) (i:=m) (by simpa using(by omega:m<items.size)),List.reverse_cons];simp
theorem rA{Q:Value->Shared->Prop}(hh:A.handled=none)(hit:s.heap.IsRevIter r l ((items.size:Int)-1))(hl:s.heap.IsList l items)(hne:l≠r)(hn:items.size<=sizeLine)
  (q:∀h' tk acc c',(∀b o,b≠r->s.heap.get? b=some o->h'.get? b=some o)->(∃o,h'.get? r=some o)->h'.get? s.heap.objs.size=some {cls:=.type "list",dict:=none,data:=.seq acc c',slots:= #[]}->
   acc.toList=items.toList.reverse->Q (.ref s.heap.objs.size) {s with heap:=h',toks:=tk}):wpAny (model prog w) A (call (.type "list") [.ref r]) Q E s:=by
 have lr:r<s.heap.objs.size:=by obtain⟨_,e,_⟩:=hit;exact Gf e
 have ll:l<s.heap.objs.size:=by obtain⟨_,e,_⟩:=hl;exact Gf e
 have nr:s.heap.objs.size≠r:=Nat.ne_of_gt lr;have nl:s.heap.objs.size≠l:=Nat.ne_of_gt ll;refine callType_codes (Q₁:=fun ob s₁=>ob=.ref s.heap.objs.size/\s₁={s with heap:=s.heap.push {cls:=.type "list",data:=.seq #[]}}) F.called_list (F.typeCall_list_1 _) F.entry_list_init (code_list_new _ ⟨rfl,rfl⟩) fun ob s₁ h₁=>?_;obtain⟨rfl,rfl⟩:=h₁;have g0:(s.heap.push {cls:=.type "list",data:=.seq #[]}).get? s.heap.objs.size=some {cls:=.type "list",data:=.seq #[]}:=Gm _ rfl;refine⟨⟨_,g0,rfl⟩,F.args_list_init_2 _ _,?_⟩;have it1:(s.heap.push {cls:=.type "list",data:=.seq #[]}).IsRevIter r l ((items.size:Int)-1):=hit.at fun o e=>F0 _ e;have il1:(s.heap.push {cls:=.type "list",data:=.seq #[]}).IsList l items:=hl.push _;show wpAny _ _ (do let old <-Builtin.List.listItems (.ref s.heap.objs.size);Builtin.List.listUpdate (.ref s.heap.objs.size) (fun _=> #[]);letGo old.toList.reverse;Builtin.List.listExtendWith (.ref s.heap.objs.size) (.ref r) .none) _ _ _;unfold Builtin.List.listItems;refine FZ (FZ (wpAny_seqItems g0 rfl (F3 ?_)));show wpAny _ _ (updateSeq s.heap.objs.size (fun _=> #[])>>= fun _=>letGo (#[]:Array Value).toList.reverse>>= fun _=>Builtin.List.listExtendWith (.ref s.heap.objs.size) (.ref r) .none) _ _ _;refine FZ (wpAny_updateSeq g0 rfl ?_);have g1:=G3 (Obj.mapSeq (fun _=>(#[]:Array Value))) g0 rfl;have o1:∀b o,b≠s.heap.objs.size->(s.heap.push {cls:=.type "list",data:=.seq #[]}).get? b=some o->((s.heap.push {cls:=.type "list",data:=.seq #[]}).update s.heap.objs.size (Obj.mapSeq (fun _=>(#[]:Array Value)))).get? b=some o:=
  fun b o hb e=>(GW _ _ (Hg hb)).trans e
 have it2:=it1.at fun o e=>o1 r o (Hg nr) e;have il2:=il1.at fun o e=>o1 l o (Hg nl) e;have k2:∀b o,b≠s.heap.objs.size->s.heap.get? b=some o->((s.heap.push {cls:=.type "list",data:=.seq #[]}).update s.heap.objs.size (Obj.mapSeq (fun _=>(#[]:Array Value)))).get? b=some o:=fun b o hb e=>o1 b o hb (F0 _ e);obtain⟨c1,g1'⟩:∃c1,((s.heap.push {cls:=.type "list",data:=.seq #[]}).update s.heap.objs.size (Obj.mapSeq (fun _=>(#[]:Array Value)))).get? s.heap.objs.size=some {cls:=.type "list",data:=.seq #[] c1}:=⟨_,g1⟩;generalize ((s.heap.push {cls:=.type "list",data:=.seq #[]}).update s.heap.objs.size (Obj.mapSeq (fun _=>(#[]:Array Value))))=h2 at it2 il2 k2 g1' ⊢;refine FZ (wpAny_letGo ?_);unfold Builtin.List.listExtendWith;refine FZ (wpAny_typeOf (T:="list_reverseiterator") (Heap.IsRevIter.typeIs (s:={s with heap:=h2}) it2) ?_);have n1:Builtin.List.listSameRef (.ref s.heap.objs.size) (.ref r)=false:=by simp[Builtin.List.listSameRef,nr]
 have n2:(Value.type "list_reverseiterator"==Value.type "list")=false:=by decide
 have n3:(Value.type "list_reverseiterator"==Value.type "tuple")=false:=by decide
 simp only[n1,n2,n3,Bool.or_false,Hq,if_false];refine FZ (wpAny_pyIter_revIter it2 ?_);refine FZ (G9 (zD (s:={s with heap:=h2}) (Heap.IsRevIter.typeIs (s:={s with heap:=h2}) it2) ?_));refine wpAny_ite_split (fun z=>absurd z (by decide)) (fun _=>?_);refine F3 ⟨plainId_quiet F.plain_extend_loop _,?_⟩;refine zC (A:=A.in1) hh hne nr nl hn items.size _ #[] c1 (F4 _) it2 il2 g1' (by simp) fun h' tk acc' c' k3 gr hS' e=>⟨rfl,q h' tk acc' c' (fun b o hb e=>?_) gr hS' e⟩;have lb:b<s.heap.objs.size:=Gf e;exact k3 b o hb (Gz lb) (k2 b o (Gz lb) e)
end
end PySem
namespace L2
open PySem PySem.Spec PyProof.Rows
noncomputable def Ed(r a:Addr)(n:Nat):HO:=.ext fun h=>h.IsRevIter r a ((n:Int)-1)
noncomputable def qD(r:Addr):HO:=.ext fun h=>∃o,h.get? r=some o
section
variable{X:Cx}
theorem rq:dU X (.type "reversed") (fun xs H Q=>∃a ys,xs=[.ref a]/\SqL X.K H a ys/\∀r,H r=none->Q (.ref r) (upd H r (Ed r a ys.length))):=by intro pins s σ H xs us Q I r h;obtain⟨a,ys,rfl,ha,q⟩:=h;obtain⟨u,rfl,ru⟩:=vals1 r;cases ru;obtain⟨its,rv,pl,hz⟩:=I.list ha;have hl:=rv.length;refine call_reversed_list pl.isList ?_;refine⟨.ref s.heap.objs.size,_,I.laid (t':=s.toks) (o:=Ed s.heap.objs.size a ys.length) (fun b o e=>F0 _ e) (F4 _) ?_,rfl,q _ (I.hok.fresh (F4 _))⟩;have it:(s.heap.push (revObj a ((its.toArray.size:Int)-1))).IsRevIter s.heap.objs.size a ((ys.length:Int)-1):=⟨_,Gm _ rfl,rfl,by show Data.fields _=_;rw[Ga,hl]⟩;exact⟨it,let ⟨o,e,_⟩:=it;⟨o,e⟩,fun h1 h2 x k=>x.at k⟩
theorem uq(hc:X.calm=true):dU X (.type "list") (fun xs H Q=>∃r a ys,xs=[.ref r]/\H r=some (Ed r a ys.length)/\SqL X.K H a ys/\∀l,H l=none->Q (.ref l) (upd (upd H r (qD r)) l (.lst ys.reverse))):=by
 intro pins s σ H xs us Q I rr h;obtain⟨r,a,ys,rfl,hr,ha,q⟩:=h;obtain⟨u,rfl,ru⟩:=vals1 rr;cases ru;obtain⟨its,rv,pl,hz⟩:=I.list ha;have hl:=rv.length;have it:s.heap.IsRevIter r a ((ys.length:Int)-1):=(I.hok r _ hr).1;have hI:=pl.isList;have ne:a≠r:=by obtain⟨o1,e1,c1,_⟩:=hI;obtain⟨o2,e2,c2,_⟩:=it;intro z;rw[z,e2]at e1;cases e1;rw[c2]at c1;exact absurd c1 (by decide)
 have it2:s.heap.IsRevIter r a ((its.toArray.size:Int)-1):=by rw[Ga,<-hl];exact it
 refine rA (I.ok.hd hc) it2 hI ne (by rw[Ga];omega) fun h' tk acc c' k gr g e=>?_;have hn:=I.hok.fresh (F4 s.heap.objs.size);have hnr:s.heap.objs.size≠r:=fun z=>by rw[z,hr]at hn;cases hn
 have I1:Inv X pins σ (upd H r (qD r)) {s with heap:=h',toks:=tk}:=I.write (x:=r) (e:=r) (by rw[hr];exact True.intro) (.inl rfl) (fun b o hb e=>k b o hb e) gr ⟨gr,gr,fun h1 h2 ⟨o,e⟩ kk=>⟨o,kk o e⟩⟩;have fD:ot X pins (upd H r (qD r)) s.heap.objs.size:=I.fpOk (F4 _) (by rw[az hnr];exact hn);have I2:=I1.track (t':=tk) (ys:=ys.reverse) (its:=acc.toList) (n:=c') fD (fun b o _ e=>e) (by rw[e];simpa using rv.reverse) (by rw[List.length_reverse];exact hz) (by simpa using g);exact⟨.ref s.heap.objs.size,_,I2,rfl,q _ hn⟩
end
end L2
namespace L2
open PySem PySem.Spec PyProof.Rows
open LM (dS eI iY)
instance memCol(c:Col)(D:List Col):Decidable (c∈D):=decidable_of_iff (D.any (fun x=>decide (x=c))=true) (by
 rw[Hr]
 constructor
 ·rintro⟨x,hx,e⟩;rw[<-Gu e];exact hx
 ·intro h;exact⟨c,h,Gp rfl⟩)
noncomputable abbrev iM:=List (Nat×Col)
structure ij(g:Nat->Option Col)(R:iM):Prop where
 nd:(R.map (·.2)).Nodup
 ok:∀p∈R,p.1<2^64/\p.1≠0/\∀i,i<64->(p.1.testBit i=true<->g i=some p.2)
 all:∀i c,i<64->g i=some c->c∈R.map (·.2)
 so:R.Pairwise fun p q=>dS p.1<dS q.1
def qA(K:Frag)(H:Hp)(v:V)(p:Nat×Col):Prop:=∃r b,v=.ref r/\SqT K H r [.int (p.1:Nat),.ref b]/\eO K H b p.2
theorem qA.tk{K:Frag}{H H':Hp}{v:V}{p:Nat×Col}(t:TK H H')(h:qA K H v p):qA K H' v p:=by obtain⟨r,b,e,h1,h2⟩:=h;exact⟨r,b,e,t.sq h1,h2.tk t⟩
def StrT(K:Frag)(H:Hp)(a:Addr)(R:iM):Prop:=∃vs,SqT K H a vs/\Paired (qA K H) vs R
theorem StrT.tk{K:Frag}{H H':Hp}{a:Addr}{R:iM}(t:TK H H')(h:StrT K H a R):StrT K H' a R:=by obtain⟨vs,h1,h2⟩:=h;exact⟨vs,t.sq h1,Paired.imp (fun _ _ z=>z.tk t) h2⟩
end L2
namespace L2
open PySem PySem.Spec PyProof.Rows
noncomputable def uE(R:iM):PyData:=.tuple (R.map fun p=>.tuple [.int (p.1:Nat),k8 p.2])
theorem uN{K:Frag}{H:Hp}:∀(r:List Key),eA K H (r.map gT) (r.map kV)
 | []=>.nil
 |k::r=>by
  refine .cons ?_ (uN r);cases k with
  |inl i=>exact .int i
  |inr x=>exact .str x
theorem eO.isD{K:Frag}{H:Hp}{b:Addr}{c:Col}(h:eO K H b c):IsD K H (k8 c) (.ref b):=by
 obtain⟨l,xs,h1,h2⟩:=h;refine .tup h1 ?_;clear h1 l
 induction h2 with
 |nil=>exact .nil
 |cons a _ ih=>obtain⟨x,rfl,hx⟩:=a;exact .cons (.tup hx (uN _)) ih
theorem yd{K:Frag}{H:Hp}{vs:List V}{R:iM}(hI:Paired (qA K H) vs R):eA K H (R.map fun p=>.tuple [.int (p.1:Nat),k8 p.2]) vs:=by
 induction hI with
 |nil=>exact .nil
 |cons a b ih=>obtain⟨r,x,rfl,h1,h2⟩:=a;exact .cons (.tup h1 (.cons (.int _) (.cons h2.isD .nil))) (ih)
theorem StrT.isD{K:Frag}{H:Hp}{a:Addr}{R:iM}(h:StrT K H a R):IsD K H (uE R) (.ref a):=by obtain⟨vs,h1,h2⟩:=h;exact .tup h1 (yd h2)
def Ff(R:iM):Prop:=∀p∈R,∀r∈p.2,∀k∈r,wK k=true
theorem StrT.lay{K:Frag}{H:Hp}{a:Addr}{R:iM}(h:StrT K H a R):Ff R:=by
 obtain⟨vs,h1,h2⟩:=h;clear h1
 induction h2 with
 |nil=>intro p hp;cases hp
 |cons a _ ih=>
  intro p hp;rcases Gg.mp hp with e|e
  ·subst e;obtain⟨_,_,_,_,h⟩:=a;exact h.1
  ·exact ih p e
theorem vi:∀{R:iM},Ff R->PyData.canLayAll0 (R.map fun p=>.tuple [.int (p.1:Nat),k8 p.2])=true
 | [],_=>rfl
 |p::R,h=>by have h1:=oC p.2 (h p (F7 ..));have h2:=vi (R:=R) fun q hq=>h q (F1 _ hq);show((true&&(PyData.canLayAll0 (p.2.map n4)&&true))&&PyData.canLayAll0 (R.map fun p=>.tuple [.int (p.1:Nat),k8 p.2]))=true;rw[h1,h2];rfl
theorem AO(R:iM):(uE R).depth<=5:=by
 have:∀(R:iM),PyData.depthAll (R.map fun p=>.tuple [.int (p.1:Nat),k8 p.2])<=4:=by
  intro R
  induction R with
  |nil=>show(0:Nat)<=4;decide
  |cons p R ih=>
   have h:=xR p.2;have h2:(PyData.tuple [.int (p.1:Nat),k8 p.2]).depth<=4:=by show max 0 (max (k8 p.2).depth 0)+1<=4;omega
   show max _ _<=4;exact Nat.max_le.mpr ⟨h2,ih⟩
 have h:=this R;show PyData.depthAll _+1<=5;omega
def eQ(K:Frag)(H:Hp)(v:V)(r:List Key):Prop:=(∀k∈r,wK k=true)/\∃a,v=.ref a/\SqT K H a (r.map kV)
theorem eQ.tk{K:Frag}{H H':Hp}{v:V}{r:List Key}(t:TK H H')(h:eQ K H v r):eQ K H' v r:=by obtain⟨l,a,e,z⟩:=h;exact⟨l,a,e,t.sq z⟩
theorem eO.of{K:Frag}{H:Hp}{b:Addr}{xs:List V}{c:Col}(h:SqT K H b xs)(p:Paired (eQ K H) xs c):eO K H b c:=by
 refine⟨?_,xs,h,Paired.imp (fun _ _ z=>z.2) p⟩;clear h
 induction p with
 |nil=>intro r hr;cases hr
 |cons a _ ih=>
  intro r hr;rcases Gg.mp hr with e|e
  ·subst e;exact a.1
  ·exact ih r e
theorem Ea{α:Type}{xs:List α}{i:Int}(h0:0<=i)(h1:i<xs.length):∃x,x∈xs/\atI xs i=some x:=by
 obtain⟨n,rfl⟩:∃n:Nat,i=n:=⟨i.toNat,by omega⟩;have hn:n<xs.length:=by omega
 exact⟨xs[n],Hv hn,av (by simp[hn])⟩
end L2
namespace L2
open PySem PySem.Spec PyProof.Rows
open LM (dS eI iY jU)
noncomputable def msk(g:Nat->Option Col):Nat->Col->Nat
 | 0,_=>0
 |i+1,c=>if g i=some c then msk g i c+2^i else msk g i c
noncomputable def bx(g:Nat->Option Col):Nat->List Col
 | 0=>[]
 |i+1=>match g i with
  |none=>bx g i
  |some c=>if c∈bx g i then bx g i else bx g i++[c]
theorem m5(g:Nat->Option Col)(c:Col):∀i,msk g i c<2^i
 | 0=>by show(0:Nat)<1;decide
 |i+1=>by have:=m5 g c i;rw[Nat.pow_succ];show(if g i=some c then msk g i c+2^i else msk g i c)<_;split<;>omega
theorem fN(g:Nat->Option Col)(c:Col)(t:Nat):∀i,(msk g i c).testBit t=true<->t<i/\g t=some c
 | 0=>by show(0:Nat).testBit t=true<->_;simp
 |i+1=>by
  have ih:=fN g c t i;have lt:=m5 g c i;show(if g i=some c then msk g i c+2^i else msk g i c).testBit t=true<->_;split
  ·rename_i h;rw[Nat.add_comm];rcases Nat.lt_trichotomy t i with z|z|z
   ·rw[Nat.testBit_two_pow_add_gt z,ih];exact⟨fun w=>⟨by omega,w.2⟩,fun w=>⟨z,w.2⟩⟩
   ·subst z;rw[Nat.testBit_two_pow_add_eq,Nat.testBit_lt_two_pow lt];exact⟨fun _=>⟨by omega,h⟩,fun _=>rfl⟩
   ·rw[Nat.testBit_lt_two_pow (show 2^i+msk g i c<2^t from F5 (by rw[Nat.pow_succ];omega) (GY (show 2>0 by decide) (show i+1<=t by omega)))];exact⟨fun w=>absurd w (by decide),fun w=>by omega⟩
  ·rename_i h;rw[ih];constructor
   ·rintro⟨a,b⟩;exact⟨by omega,b⟩
   ·rintro⟨a,b⟩;refine⟨G5 fun z=>h ?_,b⟩;have:t=i:=(by omega);rw[<-this];exact b
theorem gF(g:Nat->Option Col)(c:Col):∀i,c∈bx g i<->∃t,t<i/\g t=some c
 | 0=>by show c∈[]<->_;simp
 |i+1=>by
  have ih:=gF g c i;have ext:(∃t,t<i+1/\g t=some c)<->c∈bx g i\/g i=some c:=by
   rw[ih];constructor
   ·rintro⟨t,a,b⟩;rcases Nat.lt_or_ge t i with z|z
    ·exact .inl ⟨t,z,b⟩
    ·have:t=i:=(by omega);rw[this]at b;exact .inr b
   ·rintro(⟨t,a,b⟩|b)
    ·exact⟨t,by omega,b⟩
    ·exact⟨i,by omega,b⟩
  rw[ext];cases e:g i with
  |none=>have:bx g (i+1)=bx g i:=(by show(match g i with|none=>_|some c=>_)=_;rw[e]);rw[this];simp
  |some c'=>
   have:bx g (i+1)=if c'∈bx g i then bx g i else bx g i++[c']:=by show(match g i with|none=>_|some c=>_)=_;rw[e]
   rw[this];split
   ·rename_i h;constructor
    ·exact .inl
    ·rintro(z|z)
     ·exact z
     ·cases z;exact h
   ·rw[Gj,F2];constructor
    ·rintro(z|z)
     ·exact .inl z
     ·exact .inr (by rw[z])
    ·rintro(z|z)
     ·exact .inl z
     ·cases z;exact .inr rfl
theorem i5{g:Nat->Option Col}{i:Nat}(e:g i=none):bx g (i+1)=bx g i:=by show(match g i with|none=>_|some c=>_)=_;rw[e]
theorem mB{g:Nat->Option Col}{i:Nat}{c:Col}(e:g i=some c)(h:c∈bx g i):bx g (i+1)=bx g i:=by show(match g i with|none=>_|some c=>_)=_;rw[e];exact F8 h
theorem jY{g:Nat->Option Col}{i:Nat}{c:Col}(e:g i=some c)(h:¬c∈bx g i):bx g (i+1)=bx g i++[c]:=by show(match g i with|none=>_|some c=>_)=_;rw[e];exact F6 h
theorem mw(g:Nat->Option Col):∀i,(bx g i).Nodup
 | 0=>List.nodup_nil
 |i+1=>by
  have ih:=mw g i;cases e:g i with
  |none=>rw[i5 e];exact ih
  |some c=>
   by_cases h:c∈bx g i
   ·rw[mB e h];exact ih
   ·rw[jY e h,List.nodup_append];exact⟨ih,by simp,fun a ha b hb z=>h (by rw[F2]at hb;rw[<-hb,<-z];exact ha)⟩
theorem tS{g:Nat->Option Col}{i:Nat}{c:Col}(h:c∈bx g i):msk g i c≠0:=fun z=>by obtain⟨t,a,b⟩:=(gF g c i).mp h;have:=(fN g c t i).mpr ⟨a,b⟩;rw[z]at this;simp at this
theorem tV{g:Nat->Option Col}{i:Nat}{c:Col}(hi:i<64)(h:c∈bx g i):dS (msk g (i+1) c)=dS (msk g i c):=by
 have lt:msk g i c<2^64:=F5 (m5 g c i) (GY (by decide) (by omega));obtain⟨b1,b2,_⟩:=eI lt (tS h);have l1:=iY (m5 g c i) (by omega) (tS h);refine jU (by omega) ((fN g c _ (i+1)).mpr ⟨by omega,((fN g c _ i).mp b1).2⟩) fun j hj=>?_;cases e:(msk g (i+1) c).testBit j with
 |false=>rfl
 |true=>have:=(fN g c j i).mpr ⟨by omega,((fN g c j (i+1)).mp e).2⟩;rw[b2 j hj]at this;cases this
theorem BX{g:Nat->Option Col}{i:Nat}{c:Col}(hi:i<64)(e:g i=some c)(h:¬c∈bx g i):dS (msk g (i+1) c)=i:=by
 refine jU hi ((fN g c _ (i+1)).mpr ⟨by omega,e⟩) fun j hj=>?_;cases w:(msk g (i+1) c).testBit j with
 |false=>rfl
 |true=>exact absurd ((gF g c i).mpr ⟨j,hj,((fN g c j (i+1)).mp w).2⟩) h
theorem vG(g:Nat->Option Col):∀i,i<=64->(bx g i).Pairwise fun c d=>dS (msk g i c)<dS (msk g i d)
 | 0,_=>List.Pairwise.nil
 |i+1,hi=>by
  have ih:=vG g i (by omega);have up:(bx g i).Pairwise fun c d=>dS (msk g (i+1) c)<dS (msk g (i+1) d):=List.Pairwise.imp_of_mem (fun {c d} hc hd z=>by rw[tV (by omega) hc,tV (by omega) hd];exact z) ih;cases e:g i with
  |none=>rw[i5 e];exact up
  |some c=>
   by_cases h:c∈bx g i
   ·rw[mB e h];exact up
   ·rw[jY e h,List.pairwise_append];refine⟨up,by simp,fun a ha b hb=>?_⟩;rw[F2.mp hb,BX (by omega) e h,tV (by omega) ha];exact iY (m5 g a i) (by omega) (tS ha)
theorem v7(g:Nat->Option Col):ij g ((bx g 64).map fun c=>(msk g 64 c,c)):=by
 refine⟨?_,fun p hp=>?_,fun i c hi e=>?_,?_⟩
 ·rw[List.map_map];show((bx g 64).map id).Nodup;rw[List.map_id];exact mw g 64
 ·obtain⟨c,hc,rfl⟩:=Ge.mp hp;refine⟨m5 g c 64,tS hc,fun i hi=>?_⟩;rw[fN];exact⟨fun z=>z.2,fun z=>⟨hi,z⟩⟩
 ·rw[List.map_map];exact Ge.mpr ⟨c,(gF g c 64).mpr ⟨i,hi,e⟩,rfl⟩
 ·rw[List.pairwise_map];exact vG g 64 (F4 _)
def GD(K:Frag)(H:Hp)(kvs:List (Key×V))(g:Nat->Option Col):Prop:=∀i:Nat,(eu kvs (.inl (i:Int))=none/\g i=none)\/∃b c,eu kvs (.inl (i:Int))=some (.ref b)/\g i=some c/\eO K H b c
theorem GD.tk{K:Frag}{H H':Hp}{kvs:List (Key×V)}{g:Nat->Option Col}(t:TK H H')(h:GD K H kvs g):GD K H' kvs g:=fun i=>by
 rcases h i with z|⟨b,c,e1,e2,e3⟩
 ·exact .inl z
 ·exact .inr ⟨b,c,e1,e2,e3.tk t⟩
theorem GD.nil{K:Frag}{H:Hp}:GD K H [] fun _=>none:=fun _=>.inl ⟨rfl,rfl⟩
theorem GD.put{K:Frag}{H:Hp}{kvs:List (Key×V)}{g:Nat->Option Col}{k:Nat}{b:Addr}{c:Col}(h:GD K H kvs g)(hc:eO K H b c):GD K H (putK kvs (.inl (k:Int)) (.ref b)) fun i=>if i=k then some c else g i:=fun i=>by
 rw[zi];by_cases e:i=k
 ·subst e;exact .inr ⟨b,c,F8 rfl,F8 rfl,hc⟩
 ·have e':¬(Sum.inl (i:Int):Key)=.inl (k:Int):=fun z=>e (by have:=Sum.inl.inj z;omega);show(_/\(if i=k then some c else g i)=none)\/∃b' c',_/\(if i=k then some c else g i)=some c'/\_;rw[F6 e',F6 e];exact h i
def yX(K:Frag)(H:Hp)(v:V)(c:Col):Prop:=∃b,v=.ref b/\eO K H b c
theorem yX.tk{K:Frag}{H H':Hp}{v:V}{c:Col}(t:TK H H')(h:yX K H v c):yX K H' v c:=by obtain⟨b,e,z⟩:=h;exact⟨b,e,z.tk t⟩
theorem kJ{α β:Type}{R:α->β->Prop}{as:List α}{bs:List β}(h:Paired R as bs){a:α}(ha:a∈as):∃b∈bs,R a b:=by obtain⟨i,hi,rfl⟩:=List.getElem_of_mem ha;obtain⟨b,hb,r⟩:=aX h (Gh hi);exact⟨b,Gb hb,r⟩
end L2
namespace L2
open PySem PySem.Spec PyProof.Rows My
theorem xN{n j:Nat}(h:j<n):ixN n (j:Int)=some j:=by unfold ixN;rw[F8 (by omega),F8 (by omega),Hb]
theorem BU{g:Nat->Option Col}{i:Nat}{c:Col}(h:¬c∈bx g i):msk g i c=0:=by
 refine Nat.eq_of_testBit_eq fun t=>?_;rw[Nat.zero_testBit];cases e:(msk g i c).testBit t with
 |false=>rfl
 |true=>exact absurd ((gF g c i).mpr ⟨t,(fN g c t i).mp e⟩) h
end L2
namespace L2
open PySem PySem.Spec PyProof.Rows
theorem ij.congr{g g':Nat->Option Col}{R:iM}(h:ij g R)(e:∀i,i<64->g i=g' i):ij g' R:=by refine⟨h.nd,fun p hp=>?_,fun i c hi w=>h.all i c hi (by rw[e i hi];exact w),h.so⟩;obtain⟨a,b,c⟩:=h.ok p hp;exact⟨a,b,fun i hi=>by rw[c i hi,e i hi]⟩
theorem TK.dk{H:Hp}{D:Addr}{kvs:List (Key×V)}{o:HO}(hD:H D=some (.dK kvs)):TK H (upd H D o):=
 ⟨fun _ _ e=>by rw[az (hW e hD (fun z=>nomatch z))];exact e,fun _ _ _ e=>by rw[az (hW e hD (fun z=>nomatch z))];exact e⟩
theorem tK{α β:Type}{R:α->β->Prop}{as as':List α}(p:as.Perm as'):∀{bs:List β},Paired R as bs->∃bs':List β,bs'.Perm bs/\Paired R as' bs':=by
 intro bs h;have sw:∀{as:List α}{bs:List β},Paired R as bs->Paired (fun b a=>R a b) bs as:=by
  intro as bs h
  induction h with
  |nil=>exact .nil
  |cons a _ ih=>exact .cons a ih
 have ws:∀{as:List α}{bs:List β},Paired (fun b a=>R a b) bs as->Paired R as bs:=by
  intro as bs h
  induction h with
  |nil=>exact .nil
  |cons a _ ih=>exact .cons a ih
 obtain⟨d,h1,h2⟩:=uX p (sw h);exact⟨d,h1.symm,ws h2⟩
def fE(r:List Key):Prop:=∃n k x m u,r=[.inl n,.inr k,.inr x,.inl m,.inl u]
noncomputable def bh:List Key->Int
 | .inl n::_=>n
 |_=>0
structure mF(C:List Col)(T:Col):Prop where
 so:T.Pairwise fun a b=>bh a<bh b
 mem:∀r,r∈T<->∃c∈C,r∈c
theorem mF.uniq{C:List Col}{S T:Col}(h:mF C S)(k:mF C T):S=T:=by
 have nd:∀{T:Col},T.Pairwise (fun a b=>bh a<bh b)->T.Nodup:=fun z=>List.Pairwise.imp (fun {a b} w e=>by rw[e]at w;omega) z;have pm:S.Perm T:=(List.perm_ext_iff_of_nodup (nd h.so) (nd k.so)).mpr fun r=>by rw[h.mem,k.mem]
 exact List.Perm.eq_of_pairwise (fun a b _ _ x y=>by omega) h.so k.so pm
def KB(K:Frag)(H:Hp)(kv:Key×V)(r:List Key):Prop:=kv.1=.inl (bh r)/\eQ K H kv.2 r
theorem DR{K:Frag}{H:Hp}{n:Int}{kvs:List (Key×V)}{D:List (List Key)}(hI:Paired (KB K H) kvs D):(kvs.any fun kv=>decide (kv.1=.inl n))=D.any fun d=>decide (bh d=n):=by
 induction hI with
 |nil=>exact rfl
 | @cons kv d _ _ a b ih=>
  rw[Hw,Hw,ih,a.1];congr 1;by_cases h:bh d=n
  ·rw[h,Gp rfl,Gp rfl]
  ·rw[Gw h,Gw (fun z=>h (Sum.inl.inj z))]
theorem DQ{K:Frag}{H:Hp}{v:V}{r:List Key}(hv:eQ K H v r){kvs:List (Key×V)}{D:List (List Key)}(hI:Paired (KB K H) kvs D):(∀d∈D,bh d=bh r->d=r)->Paired (KB K H) (kvs.map fun kv=>if kv.1=.inl (bh r)then(kv.1,v)else kv) D:=by
 induction hI with
 |nil=>exact fun _=>.nil
 | @cons kv d _ _ a b ih=>
  intro hu;rw[F9];refine .cons ?_ (ih fun d' hd'=>hu d' (F1 _ hd'));by_cases h:kv.1=.inl (bh r)
  ·rw[F8 h];have e:bh d=bh r:=Sum.inl.inj (a.1.symm.trans h);have:=hu d (F7 ..) e;subst this;exact⟨a.1,hv⟩
  ·rw[F6 h];exact a
noncomputable def rB(D:List (List Key))(r:List Key):List (List Key):=if(D.any fun d=>decide (bh d=bh r))=true then D else D++[r]
theorem Au{K:Frag}{H:Hp}{v:V}{r:List Key}(hv:eQ K H v r){kvs:List (Key×V)}{D:List (List Key)}(h:Paired (KB K H) kvs D)(hu:∀d∈D,bh d=bh r->d=r):Paired (KB K H) (putK kvs (.inl (bh r)) v) (rB D r):=by
 unfold putK rB;rw[DR h];split
 ·exact DQ hv h hu
 ·exact Paired.app h (.cons ⟨rfl,hv⟩ .nil)
theorem vQ{D:List (List Key)}{r x:List Key}(hu:∀d∈D,bh d=bh r->d=r):x∈rB D r<->x∈D\/x=r:=by
 unfold rB;split
 ·rename_i h;obtain⟨d,hd,e⟩:=Hr.mp h;have:=hu d hd (Gu e);subst this;exact⟨.inl,fun z=>z.elim id fun w=>by rw[w];exact hd⟩
 ·rw[Gj,F2]
theorem x3{D:List (List Key)}{r:List Key}(nd:(D.map bh).Nodup):((rB D r).map bh).Nodup:=by
 unfold rB;split
 ·exact nd
 ·rename_i h;rw[Gk,List.nodup_append];refine⟨nd,by simp,fun a ha b hb e=>h ?_⟩;rw[F9,HH,F2]at hb;obtain⟨d,hd,ed⟩:=Ge.mp ha;exact Hr.mpr ⟨d,hd,Gp (by rw[ed,e,hb])⟩
theorem As{K:Frag}{H:Hp}{n:Int}{kvs:List (Key×V)}{D:List (List Key)}(hI:Paired (KB K H) kvs D):n∈D.map bh->∃v r,eu kvs (.inl n)=some v/\r∈D/\bh r=n/\eQ K H v r:=by
 induction hI with
 |nil=>exact fun h=>by cases h
 | @cons kv d _ _ a b ih=>
  intro h;by_cases z:bh d=n
  ·exact⟨kv.2,d,cK (by rw[a.1,z]),F7 ..,z,a.2⟩
  ·rw[F9]at h;rcases Gg.mp h with w|w
   ·exact absurd w.symm z
   ·obtain⟨v,r,h1,h2,h3,h4⟩:=ih w;exact⟨v,r,by rw[cL (fun y=>z (Sum.inl.inj (a.1.symm.trans y)))];exact h1,F1 _ h2,h3,h4⟩
theorem xK{K:Frag}{H:Hp}{kvs:List (Key×V)}{D:List (List Key)}(hI:Paired (KB K H) kvs D):(kvs.map fun q=>kV q.1)=(D.map bh).map V.int:=by
 induction hI with
 |nil=>exact rfl
 |cons a b ih=>exact by rw[F9,F9,F9,ih,a.1];rfl
theorem wC{D:List (List Key)}(nd:(D.map bh).Nodup):∀a∈D,∀b∈D,bh a=bh b->a=b:=by
 induction D with
 |nil=>intro a ha;cases ha
 |cons d D ih=>
  rw[F9,Hh]at nd;intro a ha b hb e;rcases Gg.mp ha with z|z<;>rcases Gg.mp hb with w|w
  ·rw[z,w]
  ·exact absurd (Ge.mpr ⟨b,w,by rw[<-e,z]⟩) nd.1
  ·exact absurd (Ge.mpr ⟨a,z,by rw[e,w]⟩) nd.1
  ·exact ih nd.2 a z b w e
theorem C3{C:List Col}{D T:List (List Key)}{ns:List Int}(nd:(D.map bh).Nodup)(hD:∀r,r∈D<->∃c∈C,r∈c)(pm:ns.Perm (D.map bh))(so:ns.Pairwise (·<=·))(hT:T.map bh=ns)(sub:∀r∈T,r∈D):mF C T:=by
 have inj:=wC nd;refine⟨?_,fun r=>?_⟩
 ·have n2:(T.map bh).Nodup:=by rw[hT];exact pm.nodup_iff.mpr nd
  have s2:(T.map bh).Pairwise (·<=·):=by rw[hT];exact so
  have both:=List.pairwise_and_iff.mpr ⟨s2,n2⟩;rw[List.pairwise_map]at both;exact List.Pairwise.imp (fun {a b} ⟨x,y⟩=>by have:bh a≠bh b:=y;omega) both
 ·rw[<-hD];refine⟨sub r,fun h=>?_⟩;have:bh r∈T.map bh:=by rw[hT];exact pm.mem_iff.mpr (List.mem_map_of_mem h)
  obtain⟨t,ht,e⟩:=Ge.mp this;rw[<-inj t (sub t ht) r h e];exact ht
end L2
namespace L2
open PySem PySem.Spec PyProof.Rows LM
theorem vne{a b:Int}:(!decide (V.int a=V.int b))=true<->a≠b:=by rw[Bool.not_eq_true',decide_eq_false_iff_not];exact⟨fun h e=>h (congrArg V.int e),fun h e=>h (V.int.inj e)⟩
theorem eO.bur{K:Frag}{H:Hp}{b:Addr}{c:Col}(h:eO K H b c):∃xs,SqT K H b xs/\Paired (eQ K H) xs c:=by
 obtain⟨lay,xs,hx,pr⟩:=h;refine⟨xs,hx,?_⟩;clear hx
 induction pr with
 |nil=>exact .nil
 |cons a _ ih=>obtain⟨q,rfl,h2⟩:=a;exact .cons ⟨lay _ (F7 ..),q,rfl,h2⟩ (ih fun r hr=>lay r (F1 _ hr))
def GoodC(c:Col):Prop:=(∀r∈c,fE r)/\(c.map bh).Nodup/\c.length<=20
end L2
namespace L2
open PySem PyProof.Rows
noncomputable abbrev SM(α:Type):=StateT SortSt Sem α
end L2
namespace LT
open PySem PyProof.Rows L2
class KN where
 kn:Keyed->Int
 isK:Keyed->Prop
 kd:type_of% oneType'
class vS(prog:Program)(w:World)(A:Around)(E:Value->Shared->Prop)(s:Shared)[KN]:Prop where
 lt:∀{st:SortSt}{x y:Keyed}{Q:Option Bool->SortSt->Prop},kindOf st=KN.kd->KN.isK x->KN.isK y->Q (some (decide (KN.kn x<KN.kn y))) st->wpS (model prog w) A E s (lt' x y) Q st
variable[KN]
noncomputable def kn(p:Keyed):Int:=KN.kn p
def IsK(p:Keyed):Prop:=KN.isK p
noncomputable abbrev kd0:type_of% oneType':=KN.kd
noncomputable def K(xs:Array Keyed)(i:Nat):Int:=match xs[i]? with
 |some p=>kn p
 |none=>0
def SortedTo(xs:Array Keyed)(k:Nat):Prop:=∀i j,i<=j->j<k->K xs i<=K xs j
def qC(xs:Array Keyed):Prop:=∀p,p∈xs.toList->IsK p
theorem K_congr{xs ys:Array Keyed}{i j:Nat}(h:xs[i]?=ys[j]?):K xs i=K ys j:=by unfold K;rw[h]
theorem K_bubble{xs:Array Keyed}{src d:Nat}(hs:src<xs.size)(hd:d<=src)(k:Nat):K (bubble xs src d) k=if k=src-d then K xs src else if src-d<k/\k<=src then K xs (k-1)else K xs k:=by
 have e:=getElem?_bubble hs d hd k;split
 ·rename_i h;rw[F8 h]at e;exact K_congr e
 ·rename_i h;rw[F6 h]at e;split
  ·rename_i h2;rw[F8 h2]at e;exact K_congr e
  ·rename_i h2;rw[F6 h2]at e;exact K_congr e
theorem K_mirror{xs:Array Keyed}{i j:Nat}(hj:j<=xs.size)(k:Nat):K (mirror xs i j ((j-i) / 2)) k=if i<=k/\k<j then K xs (i+j-1-k)else K xs k:=by
 have e:=getElem?_mirror_all (i:=i) hj k;split
 ·rename_i h;rw[F8 h]at e;exact K_congr e
 ·rename_i h;rw[F6 h]at e;exact K_congr e
theorem K_mirror_equal{xs:Array Keyed}{i j:Nat}(hj:j<=xs.size)(heq:∀k,i<=k->k<j->K xs k=K xs (j-1))(k:Nat):K (mirror xs i j ((j-i) / 2)) k=K xs k:=by
 rw[K_mirror hj];split
 ·rw[heq _ (by omega) (by omega),heq k (by omega) (by omega)]
 ·rfl
section
variable{prog:Program}{w:World}{A:Around}{E:Value->Shared->Prop}{s:Shared}[vS prog w A E s]
theorem Bc{st:SortSt}{x y:Keyed}{Q:Option Bool->SortSt->Prop}(hk:kindOf st=kd0)(hx:IsK x)(hy:IsK y)(h:Q (some (decide (kn x<kn y))) st):wpS (model prog w) A E s (lt' x y) Q st:=vS.lt hk hx hy h
end
end LT
namespace LT
open PySem PyProof.Rows L2
variable[KN]
noncomputable abbrev setG(z:SortSt)(g:Nat):SortSt:=SortSt.mk' (kindOf z) (arrOf z) (pendingOf z) g (failedOf z)
abbrev So(a:List Keyed):Prop:=a.Pairwise fun x y=>kn x<=kn y
structure SA(a₀:Array Keyed)(z:SortSt)(lo:Nat)(st:SortSt):Prop where
 perm:(arrOf st).Perm a₀
 kind:kindOf st=kd0
 failed:failedOf st=none
 pend:pendingOf st=pendingOf z
 keep:∀k,k<lo->(arrOf st)[k]?=(arrOf z)[k]?
theorem SA.size{a₀:Array Keyed}{z:SortSt}{lo:Nat}{st:SortSt}(h:SA a₀ z lo st):(arrOf st).size=a₀.size:=h.perm.size_eq
theorem SA.at{a₀:Array Keyed}{z:SortSt}{lo:Nat}{st:SortSt}(h:SA a₀ z lo st)(h0:qC a₀){i:Nat}(hi:i<a₀.size):∃p,(arrOf st)[i]?=some p/\IsK p/\kn p=K (arrOf st) i:=by
 have hi':i<(arrOf st).size:=by rw[h.size];exact hi
 have hm:(arrOf st)[i]∈a₀.toList:=(Array.perm_iff_toList_perm.mp h.perm).mem_iff.mp (by simp);have e:(arrOf st)[i]?=some (arrOf st)[i]:=getElem?_pos _ i hi';refine⟨_,e,h0 _ hm,?_⟩;unfold K;rw[e]
def k9(xs:Array Keyed)(lo n:Nat):Prop:=∀i j,i<=j->j<n->K xs (lo+i)<=K xs (lo+j)
def w9(xs:Array Keyed)(lo n:Nat):Prop:=∀i j,i<=j->j<n->K xs (lo+j)<=K xs (lo+i)
theorem SA.mir{a₀:Array Keyed}{z:SortSt}{lo:Nat}{st:SortSt}(h:SA a₀ z lo st){i j d:Nat}(hi:lo<=i)(hj:j<=a₀.size)(hd:2*d<=j-i):SA a₀ z lo (setArr st (mirror (arrOf st) i j d)):=by refine⟨(mirror_perm _ _ _ _).trans h.perm,h.kind,h.failed,h.pend,fun k hk=>?_⟩;show(mirror (arrOf st) i j d)[k]?=_;rw[getElem?_mirror (by rw[h.size];exact hj) d hd,F6 (by omega)];exact h.keep k hk
section
variable{prog:Program}{w:World}{A:Around}{E:Value->Shared->Prop}{s:Shared}[vS prog w A E s]{a₀:Array Keyed}{z:SortSt}{lo:Nat}
theorem lB{st:SortSt}{i j:Nat}{Q:Option Bool->SortSt->Prop}(hB:SA a₀ z lo st)(h0:qC a₀)(hi:i<a₀.size)(hj:j<a₀.size)
  (h:Q (some (decide (K (arrOf st) i<K (arrOf st) j))) st):wpS (model prog w) A E s (ltAt' i j) Q st:=by
 obtain⟨p,e1,k1,n1⟩:=hB.at h0 hi;obtain⟨q,e2,k2,n2⟩:=hB.at h0 hj;rw[ltAt'_eq];refine GQ (wpS_get ?_);show wpS _ _ _ _ (do let x <-elem' (arrOf st) i;let y <-elem' (arrOf st) j;lt' x y) Q st;rw[elem'_eq,elem'_eq,e1,e2];refine GQ (Hi (GQ (Hi ?_)));refine Bc hB.kind k1 k2 ?_;rw[n1,n2];exact h
theorem sO{st:SortSt}{x0 nrem:Nat}{f:Nat->Option (Option Nat)×Nat->SM (ForInStep (Option (Option Nat)×Nat))}{k:Nat->Option Bool->SM (ForInStep (Option (Option Nat)×Nat))}{Q:Option (Option Nat)×Nat->SortSt->Prop}
  (hf:∀x n,f x (none,n)=ltAt' (lo+n) (lo+n-1)>>= k n) (hk:∀n b,k n (some b)=if b=true then pure (ForInStep.done (none,n))else pure (ForInStep.yield (none,n+1)))
  (h0:qC a₀) (hB:SA a₀ z lo st) (hn:lo+nrem<=a₀.size) (h1:1<=x0) (h2:x0<=nrem) (hs:k9 (arrOf st) lo x0)
  (h:∀n,x0<=n->n<=nrem->k9 (arrOf st) lo n->(n=nrem\/K (arrOf st) (lo+n)<K (arrOf st) (lo+n-1))->Q (none,n) st):wpS (model prog w) A E s (forIn [x0:nrem] (none,x0) f) Q st:=by
 refine wpS_forRange (I:=fun x c st'=>st'=st/\c=(none,x)/\k9 (arrOf st) lo x) ?step ?fin ⟨rfl,rfl,hs⟩
 case fin=>rintro c st' ⟨rfl,rfl,hs'⟩;rw[show max x0 nrem=nrem by omega]at hs' ⊢;exact h nrem h2 (F4 _) hs' (.inl rfl)
 case step=>
  rintro x c st' hax hxn ⟨rfl,rfl,hs'⟩;rw[hf];refine GQ (lB hB h0 (by omega) (by omega) ?_);rw[hk];by_cases hless:K (arrOf st') (lo+x)<K (arrOf st') (lo+x-1)
  ·rw[Gp hless,F8 rfl];exact Hi (h x hax (by omega) hs' (.inr hless))
  ·rw[Gw hless,F6 (by decide)];refine Hi ⟨rfl,rfl,fun i j hij hj=>?_⟩;by_cases hjx:j<x
   ·exact hs' i j hij hjx
   ·have hj':j=x:=(by omega);subst hj';by_cases hi':i=j
    ·subst hi';exact HK _
    ·have z1:=hs' i (j-1) (by omega) (by omega);rw[show lo+(j-1)=lo+j-1 by omega]at z1;exact Int.le_trans z1 (Int.not_lt.mp hless)
theorem Be{st:SortSt}{nrem:Nat}{Q:Option Nat->SortSt->Prop}(h0:qC a₀)(hB:SA a₀ z lo st)(hn:lo+nrem<=a₀.size)(h1:1<=nrem)
  (h:∀m st',SA a₀ z lo st'->1<=m->m<=nrem->k9 (arrOf st') lo m->Q (some m) st'):wpS (model prog w) A E s (countRun' lo nrem) Q st:=by
 rw[countRun'_eq];have one:k9 (arrOf st) lo 1:=fun i j hij hj=>by
  have e:i=j:=by omega
  subst e;exact HK _
 refine GQ (sO (fun _ _=>rfl) (fun _ _=>rfl) h0 hB hn (F4 1) h1 one fun n n1 n2 sn hor=>?_);dsimp only;by_cases c1:(n==nrem)=true
 ·rw[F8 c1];exact Hi (h n st hB n1 n2 sn)
 rw[F6 c1];have c1':¬n=nrem:=by simpa using c1
 have hlt:=hor.resolve_left c1';have n1r:n+1<=nrem:=by omega
 refine'(fun(tail:∀stD:SortSt,SA a₀ z lo stD->w9 (arrOf stD) lo (n+1)->wpS (model prog w) A E s _ Q stD)=>?G) ?T
 case G=>
  by_cases hgt:n>1
  ·rw[F8 hgt];refine GQ (lB hB h0 (by omega) (by omega) ?_);dsimp only;by_cases hrose:K (arrOf st) lo<K (arrOf st) (lo+n-1)
   ·rw[Gp hrose,F8 rfl];exact Hi (h n st hB n1 n2 sn)
   rw[Gw hrose,F6 (by decide)];have hall:∀k,lo<=k->k<lo+n->K (arrOf st) k=K (arrOf st) (lo+n-1):=fun k g1 g2=>by have a1:=sn 0 (k-lo) (by omega) (by omega);have a2:=sn (k-lo) (n-1) (by omega) (by omega);rw[show lo+0=lo by omega,show lo+(k-lo)=k by omega]at a1;rw[show lo+(k-lo)=k by omega,show lo+(n-1)=lo+n-1 by omega]at a2;omega
   refine GQ (wpS_reverse ?_);have hD:=hB.mir (i:=lo) (j:=lo+n) (d:=(lo+n-lo) / 2) (F4 _) (by omega) (by omega);have sd:w9 (arrOf (setArr st (mirror (arrOf st) lo (lo+n) ((lo+n-lo) / 2)))) lo (n+1):=fun i j hij hj=>by
    show K (mirror _ _ _ _) _<=K (mirror _ _ _ _) _;rw[K_mirror_equal (by rw[hB.size];omega) hall,K_mirror_equal (by rw[hB.size];omega) hall];by_cases hjn:j<n
    ·rw[hall (lo+i) (by omega) (by omega),hall (lo+j) (by omega) (by omega)];exact HK _
    ·have hj':j=n:=(by omega);subst hj';by_cases hi':i=j
     ·subst hi';exact HK _
     ·rw[hall (lo+i) (by omega) (by omega)];exact He hlt
   generalize (setArr st (mirror (arrOf st) lo (lo+n) ((lo+n-lo) / 2)))=stD at hD sd ⊢;exact tail _ hD sd
  ·rw[F6 hgt];have e1:n=1:=(by omega);have hD:=hB;have sd:w9 (arrOf st) lo (n+1):=fun i j hij hj=>by
    by_cases hi':i=j
    ·subst hi';exact HK _
    ·have hi0:i=0:=(by omega);have hj1:j=1:=(by omega);subst hi0;subst hj1;subst e1;exact He hlt
   generalize st=stD at hD sd ⊢;exact tail _ hD sd
 case T=>
  intro stD hD sd;refine GQ (wpS_lift (wpAny_rule ⟨rfl,?_⟩));refine GQ (wpS_mono (wpS_forRange (I:=fun x c st'=>∃neq,c=(none,x,neq)/\SA a₀ z lo st'/\w9 (arrOf st') lo x/\neq+1<=x/\∀i,x-(neq+1)<=i->i<x->K (arrOf st') (lo+i)=K (arrOf st') (lo+x-1)) (Q:=fun c st'=>∃m neq,c=(none,m,neq)/\n+1<=m/\m<=nrem/\SA a₀ z lo st'/\w9 (arrOf st') lo m/\neq+1<=m/\∀i,m-(neq+1)<=i->i<m->K (arrOf st') (lo+i)=K (arrOf st') (lo+m-1)) ?dstep ?dfin ⟨0,rfl,hD,sd,by omega,fun i g1 g2=>by congr 1;omega⟩) ?dpost)
  case dfin=>rintro c st' ⟨neq,rfl,b1,b2,b3,b4⟩;rw[show max (n+1) nrem=nrem by omega]at b2 b3 b4 ⊢;exact⟨nrem,neq,rfl,by omega,F4 _,b1,b2,b3,b4⟩
  case dstep=>
   rintro x c st' hax hxn ⟨neq,rfl,b1,b2,b3,b4⟩;dsimp only;refine GQ (lB b1 h0 (by omega) (by omega) ?_);dsimp only;have heq:∀k,lo+x-(neq+1)<=k->k<lo+x->K (arrOf st') k=K (arrOf st') (lo+x-1):=fun k g1 g2=>by have:=b4 (k-lo) (by omega) (by omega);rw[show lo+(k-lo)=k by omega]at this;exact this
   by_cases hless:K (arrOf st') (lo+x)<K (arrOf st') (lo+x-1)
   ·rw[Gp hless,F8 rfl];have step1:∀xs:Array Keyed,(∀k,K xs k=K (arrOf st') k)->w9 xs lo (x+1):=by
     intro xs hk i j hij hj;rw[hk,hk];by_cases hjx:j<x
     ·exact b2 i j hij hjx
     ·have hj':j=x:=(by omega);subst hj';by_cases hi':i=j
      ·subst hi';exact HK _
      ·have z1:=b2 i (j-1) (by omega) (by omega);rw[show lo+(j-1)=lo+j-1 by omega]at z1;exact Int.le_trans (He hless) z1
    by_cases hneq:neq>0
    ·rw[F8 hneq];refine GQ (wpS_reverse (Hi ⟨0,rfl,b1.mir (by omega) (by omega) (by omega),step1 _ (K_mirror_equal (by rw[b1.size];omega) heq),by omega,fun i g1 g2=>by congr 1;omega⟩))
    ·rw[F6 hneq];exact Hi ⟨0,rfl,b1,step1 _ (fun _=>rfl),by omega,fun i g1 g2=>by congr 1;omega⟩
   ·rw[Gw hless,F6 (by decide)];refine GQ (lB b1 h0 (by omega) (by omega) ?_);dsimp only;by_cases hlarger:K (arrOf st') (lo+x-1)<K (arrOf st') (lo+x)
    ·rw[Gp hlarger,F8 rfl];exact Hi ⟨x,neq,rfl,hax,by omega,b1,b2,b3,b4⟩
    ·rw[Gw hlarger,F6 (by decide)];have heqx:K (arrOf st') (lo+x)=K (arrOf st') (lo+x-1):=(by omega);refine Hi ⟨neq+1,rfl,b1,fun i j hij hj=>?_,by omega,fun i g1 g2=>?_⟩
     ·by_cases hjx:j<x
      ·exact b2 i j hij hjx
      ·have hj':j=x:=(by omega);subst hj';by_cases hi':i=j
       ·subst hi';exact HK _
       ·have z1:=b2 i (j-1) (by omega) (by omega);rw[show lo+(j-1)=lo+j-1 by omega]at z1;rw[heqx];exact z1
     ·rw[show lo+(x+1)-1=lo+x by omega];by_cases hix:i=x
      ·subst hix;rfl
      ·rw[heqx];exact b4 i (by omega) (by omega)
  case dpost=>
   rintro c st3 ⟨m,neq,rfl,m1,m2,b1,b2,b3,b4⟩;dsimp only;have heq:∀k,lo+m-(neq+1)<=k->k<lo+m->K (arrOf st3) k=K (arrOf st3) (lo+m-1):=fun k g1 g2=>by have:=b4 (k-lo) (by omega) (by omega);rw[show lo+(k-lo)=k by omega]at this;exact this
   by_cases hneq:neq>0
   ·rw[F8 hneq];refine GQ (wpS_reverse ?_);have hD4:=b1.mir (i:=lo+m-(neq+1)) (j:=lo+m) (d:=(lo+m-(lo+m-(neq+1))) / 2) (by omega) (by omega) (by omega);have sd4:w9 (arrOf (setArr st3 (mirror (arrOf st3) (lo+m-(neq+1)) (lo+m) ((lo+m-(lo+m-(neq+1))) / 2)))) lo m:=fun i j hij hj=>by
     show K (mirror _ _ _ _) _<=K (mirror _ _ _ _) _;rw[K_mirror_equal (by rw[b1.size];omega) heq,K_mirror_equal (by rw[b1.size];omega) heq];exact b2 i j hij hj
    generalize (setArr st3 (mirror (arrOf st3) (lo+m-(neq+1)) (lo+m) ((lo+m-(lo+m-(neq+1))) / 2)))=st4 at hD4 sd4 ⊢;have hD5:=hD4.mir (i:=lo) (j:=lo+m) (d:=(lo+m-lo) / 2) (F4 _) (by omega) (by omega);refine GQ (wpS_reverse ?_);have up5:k9 (mirror (arrOf st4) lo (lo+m) ((lo+m-lo) / 2)) lo m:=fun i j hij hj=>by rw[K_mirror (by rw[hD4.size];omega),K_mirror (by rw[hD4.size];omega),F8 (by omega),F8 (by omega)];have z1:=sd4 (m-1-j) (m-1-i) (by omega) (by omega);rw[show lo+(lo+m)-1-(lo+i)=lo+(m-1-i) by omega,show lo+(lo+m)-1-(lo+j)=lo+(m-1-j) by omega];exact z1
    refine GQ (sO (fun _ _=>rfl) (fun _ _=>rfl) h0 hD5 hn (by omega) m2 up5 fun n5 q1 q2 q3 _=>?_);exact Hi (h n5 _ hD5 (by omega) q2 q3)
   ·rw[F6 hneq];have hD4:=b1;have sd4:=b2;generalize st3=st4 at hD4 sd4 ⊢;have hD5:=hD4.mir (i:=lo) (j:=lo+m) (d:=(lo+m-lo) / 2) (F4 _) (by omega) (by omega);refine GQ (wpS_reverse ?_);have up5:k9 (mirror (arrOf st4) lo (lo+m) ((lo+m-lo) / 2)) lo m:=fun i j hij hj=>by
     rw[K_mirror (by rw[hD4.size];omega),K_mirror (by rw[hD4.size];omega),F8 (by omega),F8 (by omega)];have z1:=sd4 (m-1-j) (m-1-i) (by omega) (by omega);rw[show lo+(lo+m)-1-(lo+i)=lo+(m-1-i) by omega,show lo+(lo+m)-1-(lo+j)=lo+(m-1-j) by omega];exact z1
    refine GQ (sO (fun _ _=>rfl) (fun _ _=>rfl) h0 hD5 hn (by omega) m2 up5 fun n5 q1 q2 q3 _=>?_);exact Hi (h n5 _ hD5 (by omega) q2 q3)
theorem SA.bub{st:SortSt}(h:SA a₀ z lo st){src d:Nat}(hs:src<a₀.size)(hd:lo+d<=src):SA a₀ z lo (setArr st (bubble (arrOf st) src d)):=by refine⟨(bubble_perm _ _ _).trans h.perm,h.kind,h.failed,h.pend,fun k hk=>?_⟩;show(bubble (arrOf st) src d)[k]?=_;rw[getElem?_bubble (by rw[h.size];exact hs) d (by omega),F6 (by omega),F6 (by omega)];exact h.keep k hk
theorem rE{st:SortSt}{n ok:Nat}{Q:Bool->SortSt->Prop}(h0:qC a₀)(hn:lo+n<=a₀.size)(hok:ok<=n)(hB:SA a₀ z lo st)(hs:k9 (arrOf st) lo ok)
  (h:∀st',SA a₀ z lo st'->k9 (arrOf st') lo n->Q true st'):wpS (model prog w) A E s (binarySort' lo n ok) Q st:=by
 rw[binarySort'_eq];refine GQ (wpS_mono (wpS_forRange (I:=fun k c st'=>c=(none,())/\SA a₀ z lo st'/\k9 (arrOf st') lo (min k n)) (Q:=fun c st'=>c=(none,())/\SA a₀ z lo st'/\k9 (arrOf st') lo n) ?step ?fin ?init) ?post)
 case post=>rintro c st' ⟨rfl,hB',hs'⟩;exact Hi (h st' hB' hs')
 case init=>
  refine⟨rfl,hB,fun i j hij hj=>?_⟩;by_cases h1:ok=0
  ·have e:i=j:=(by omega);subst e;exact HK _
  ·exact hs i j hij (by omega)
 case fin=>rintro c st' ⟨hc,hB',hs'⟩;refine⟨hc,hB',?_⟩;rwa[show min (max (max ok 1) n) n=n by omega]at hs'
 case step=>
  rintro k c st' hak hkn ⟨rfl,hB',hs'⟩;rw[show min k n=k by omega]at hs';refine GQ (wpS_mono (wpS_forRange (I:=fun x c st''=>st''=st'/\∃l r,c=(none,l,r)/\l<=r/\r<=k/\r-l<=k-x/\ (∀i,i<l->K (arrOf st') (lo+i)<=K (arrOf st') (lo+k))/\(∀i,r<=i->i<k->K (arrOf st') (lo+k)<K (arrOf st') (lo+i))) (Q:=fun c st''=>st''=st'/\∃l r,c=(none,l,r)/\l<=k/\ (∀i,i<l->K (arrOf st') (lo+i)<=K (arrOf st') (lo+k))/\(∀i,l<=i->i<k->K (arrOf st') (lo+k)<K (arrOf st') (lo+i))) ?istep ?ifin ?iinit) ?ipost)
  case iinit=>exact⟨rfl,0,k,rfl,by omega,by omega,by omega,fun i hi=>by omega,fun i h1 h2=>by omega⟩
  case ifin=>rintro c st'' ⟨rfl,l,r,rfl,hlr,hrk,hm,hlo,hhi⟩;have e:l=r:=(by omega);subst e;exact⟨rfl,l,l,rfl,hrk,hlo,hhi⟩
  case istep=>
   rintro x c st'' _ hxk ⟨rfl,l,r,rfl,hlr,hrk,hm,hlo,hhi⟩;dsimp only;by_cases hge:l>=r
   ·rw[F8 hge];have e:l=r:=(by omega);subst e;exact Hi ⟨rfl,l,l,rfl,hrk,hlo,hhi⟩
   ·rw[F6 hge];refine GQ (lB hB' h0 (by omega) (by omega) ?_);dsimp only;by_cases hless:K (arrOf st'') (lo+k)<K (arrOf st'') (lo+(l+r) / 2)
    ·rw[Gp hless,F8 rfl];refine Hi ⟨rfl,l,(l+r) / 2,rfl,by omega,by omega,by omega,hlo,fun i h1 h2=>?_⟩;exact Int.lt_of_lt_of_le hless (hs' _ _ h1 h2)
    ·rw[Gw hless,F6 (by decide)];refine Hi ⟨rfl,(l+r) / 2+1,r,rfl,by omega,by omega,by omega,fun i h1=>?_,hhi⟩;exact Int.le_trans (hs' i ((l+r) / 2) (by omega) (by omega)) (Int.not_lt.mp hless)
  case ipost=>
   rintro c st'' ⟨rfl,l,r,rfl,hlk,hlo,hhi⟩;dsimp only;rw[moveDown'_eq];refine GQ (wpS_modify (Hi ⟨rfl,hB'.bub (by omega) (by omega),?_⟩));rw[show min (k+1) n=k+1 by omega];have hks:lo+k<(arrOf st'').size:=(by rw[hB'.size];omega);intro i j hij hj;show K (bubble (arrOf st'') (lo+k) (lo+k-(lo+l))) (lo+i)<=K (bubble (arrOf st'') (lo+k) (lo+k-(lo+l))) (lo+j);rw[K_bubble hks (by omega),K_bubble hks (by omega),show lo+k-(lo+k-(lo+l))=lo+l by omega];have e1:lo+i-1=lo+(i-1)\/i=0:=(by omega);have e2:lo+j-1=lo+(j-1)\/j=0:=(by omega);by_cases i1:i=l
   ·rw[F8 (by omega)];by_cases j1:j=l
    ·rw[F8 (by omega)];exact HK _
    ·rw[F6 (by omega),F8 (by omega),show lo+j-1=lo+(j-1) by omega];exact He (hhi _ (by omega) (by omega))
   ·rw[F6 (by omega)];by_cases i2:l<i
    ·rw[F8 (by omega),F6 (by omega),F8 (by omega),show lo+i-1=lo+(i-1) by omega,show lo+j-1=lo+(j-1) by omega];exact hs' _ _ (by omega) (by omega)
    ·rw[F6 (by omega)];by_cases j1:j=l
     ·rw[F8 (by omega)];exact hlo _ (by omega)
     ·rw[F6 (by omega)];by_cases j2:l<j
      ·rw[F8 (by omega),show lo+j-1=lo+(j-1) by omega];exact hs' _ _ (by omega) (by omega)
      ·rw[F6 (by omega)];exact hs' _ _ hij (by omega)
end
end LT
namespace LT
open PySem PySem.Spec PyProof.Rows L2
noncomputable abbrev knI:KN where
 kn:=fun p=>numOf p.1
 isK:=fun p=>∃n t,p.1=.int n t
 kd:=oneType'
section
variable{prog:Program}{w:World}{A:Around}{E:Value->Shared->Prop}{s:Shared}
theorem Am: @vS prog w A E s knI:=by
 letI:=knI;refine⟨fun {st x y Q} hk hx hy h=>?_⟩;obtain⟨a,t,e1⟩:=hx;obtain⟨b,u,e2⟩:=hy;have hk':kindOf st=oneType':=hk;rw[lt'_eq];refine GQ (wpS_get ?_);rw[hk',keyLt'_oneType,e1,e2];refine GQ (wpS_lift (wpAny_attempt (oneLt_int ⟨rfl,?_⟩)));have h':Q (some (decide (a<b))) st:=by
  have:decide (KN.kn x<KN.kn y)=decide (a<b):=by show decide (numOf x.1<numOf y.1)=_;rw[e1,e2];rfl
  rw[<-this];exact h
 exact Hi h'
end
end LT
namespace L2
open PySem PySem.Spec PyProof.Rows LM
theorem ij.len{g:Nat->Option Col}{R:iM}(h:ij g R):R.length<=64:=by
 have nd:(R.map fun p=>dS p.1).Nodup:=by rw[List.nodup_iff_pairwise_ne,List.pairwise_map];exact List.Pairwise.imp (fun {a b} z e=>by omega) h.so
 have:=List.Nodup.length_le_of_subset nd (l₂:=List.range 64) fun x hx=>by obtain⟨p,hp,rfl⟩:=Ge.mp hx;exact GN.mpr (iY (h.ok p hp).1 (by decide) (h.ok p hp).2.1)
 rw[FY,Ha]at this;exact this
mutual
theorem IsD.same{K:Frag}{H H':Hp}(s:aw H H'):∀{d:PyData}{v:V},IsD K H d v->IsD K H' d v
 |_,_,.non=>.non
 |_,_,.bl b=>.bl b
 |_,_,.int i=>.int i
 |_,_,.str x=>.str x
 |_,_,.tup h1 h2=>.tup (s.tup h1) (eA.same s h2)
 |_,_,.lst h1 h2=>.lst (s.seq h1) (eA.same s h2)
theorem eA.same{K:Frag}{H H':Hp}(s:aw H H'):∀{ds:List PyData}{vs:List V},eA K H ds vs->eA K H' ds vs
 |_,_,.nil=>.nil
 |_,_,.cons h1 h2=>.cons (IsD.same s h1) (eA.same s h2)
end
end L2
namespace PySem
open Sem (wp)
section
variable{prog:Program}{w:World}{A:Around}{E:Value->Shared->Prop}{h:Heap}{g:Array GenState}{d:Drawn}{t:Nat}{os:OsState}
variable{nm q:Str}{C N:Addr}{bs bm bmB:List Value}{hdct:Bool}{sn:List Str}{sub:List Value}{ab:Bool}{col:Option Bool}{dd:Option Addr}{k0 k1 k2 k3 k5:Option Value}{B newId initId:String}
theorem g6(F:ExcBaseFacts B newId initId bmB)(T:OwnTail h bmB bm){mN:Str->Option Value}{rest:List Value}{fI:Addr}{oI:Obj}{Q:Fin->Shared->Prop}
  (hC:h.get? C=some (excClassObj nm q C N bs bm hdct sn sub ab col dd k0 k1 k2 k3 k5 newId)) (hn:h.Ns N mN) (hi:mN "__init__"=some (.ref fI))
  (hfI:h.get? fI=some oI) (hfc:oI.cls=.type "function")
  (hq:∀h' e,Heap.MadeExcOf h h' e (.ref C) rest->
   wpAny (model prog w) A (call (.ref fI) (.ref e::rest)) (fun r s'=>r=.none/\Q (.done (.ret (.ref e))) s') E ⟨h',g,d,t,os⟩) (hrest:rest.length<=sizeLine:=by size_fits):
  wpAny (model prog w) A (Builtin.«type.__call__» ⟨.ref C::rest,[]⟩) Q E ⟨h,g,d,t,os⟩:=by
 repeat (first|with_reducible refine G4 hC ?_|with_reducible refine wpAny_madeBy_exc hC ?_|wp_step)
 refine codeAny_call_builtin_code (Code.quiet_builtin _ F.quiet) (wpAny_check_new_subT F T hC ?_);refine codeAny_exc_new_subT F T hC ?_ hrest;show wpAny _ _ _ _ _ _;have hC₁:=F0 {cls:=.ref C,data:=.fields #[.ref h.objs.size,.none,.none,.none,.bool false,.none]}
  (F0 {cls:=.type "tuple",data:=.seq rest.toArray} hC)
 have hfI₁:=F0 {cls:=.ref C,data:=.fields #[.ref h.objs.size,.none,.none,.none,.bool false,.none]}
  (F0 {cls:=.type "tuple",data:=.seq rest.toArray} hfI)
 have hn₁:((h.push {cls:=.type "tuple",data:=.seq rest.toArray}).push {cls:=.ref C,data:=.fields #[.ref h.objs.size,.none,.none,.none,.bool false,.none]}).Ns N mN:=
  let ⟨o,es,ep,e,r⟩:=hn;⟨o,es,ep,F0 _ (F0 _ e),r⟩
 have hget:((h.push {cls:=.type "tuple",data:=.seq rest.toArray}).push
   {cls:=.ref C,data:=.fields #[.ref h.objs.size,.none,.none,.none,.bool false,.none]}).get? (h.objs.size+1)=some
   {cls:=.ref C,data:=.fields #[.ref h.objs.size,.none,.none,.none,.bool false,.none]}:=by heap_get
 have hcC:(Value.ref C::bm).contains (.ref C)=true:=by simp
 have T₁:=T.keeps (h':=(h.push {cls:=.type "tuple",data:=.seq rest.toArray}).push {cls:=.ref C,data:=.fields #[.ref h.objs.size,.none,.none,.none,.bool false,.none]})
  fun b o e=>F0 _ (F0 _ e)
 unfold isInstance
 repeat (first|with_reducible refine G4 hget ?_|(with_reducible refine wpAny_isSubtype_exc hC₁ ?_;rw[hcC])|wp_step)
 show wpAny _ _ (typeLookup (.ref C) _) _ _ _;refine wpAny_typeLookup_tail hC₁ hn₁ T₁ F.mroIs F.init.lookup ?_;rw[hi];refine G9 (FZ ?_);unfold bindSpecial;refine FZ (wpAny_typeOf (T:="function") ⟨_,hfI₁,hfc⟩ ?_);rw[F8 (by decide)];refine F3 (FZ (Gy (hq _ (h.objs.size+1) ⟨fun b o hb=>F0 _ (F0 _ hb),Heap.get?_none_of_le (Nat.le_succ _),h.objs.size,hget,Heap.get?_none_of_le (F4 _),?_⟩) (fun r s' hr=>?_) fun _ _ x=>x))
 ·exact F0 _ (Heap.get?_push_at rfl rfl)
 ·obtain⟨rfl,hQ⟩:=hr
  wp_walk
  exact hQ
theorem fU(F:ExcBaseFacts B newId initId bmB)(T:OwnTail h bmB bm){mN:Str->Option Value}{rest:List Value}{fI:Addr}{oI:Obj}{Q:Value->Shared->Prop}
  (hC:h.get? C=some (excClassObj nm q C N bs bm hdct sn sub ab col dd k0 k1 k2 k3 k5 newId)) (hn:h.Ns N mN) (hi:mN "__init__"=some (.ref fI))
  (hfI:h.get? fI=some oI) (hfc:oI.cls=.type "function")
  (hq:∀h' e,Heap.MadeExcOf h h' e (.ref C) rest->
   wpAny (model prog w) (A.under (.builtin "type.__call__" ⟨.ref C::rest,[]⟩)) (call (.ref fI) (.ref e::rest)) (fun r s'=>r=.none/\Q (.ref e) s') E ⟨h',g,d,t,os⟩) (hrest:rest.length<=sizeLine:=by size_fits):
  wpAny (model prog w) A (call (.ref C) rest) Q E ⟨h,g,d,t,os⟩:=by
 have f1:=tc_lookup;have f2:=tc_bind (.ref C);have hT:(⟨h,g,d,t,os⟩:Shared).TypeIs (.ref C) "type":=⟨_,hC,rfl⟩;refine wpAny_call (codeAny_of_tree ?_);show wpAny _ _ (callAny (.ref C) _) _ _ _
 repeat (any_goals (first|assumption|with_reducible refine G4 hC ?_|wp_step))
 refine⟨rfl,?_⟩;refine codeAny_call_builtin_at (Code.quiet_builtin _ (by decide+kernel)) entry_typeCall (wpAny_check_type_call_sub hC (g6 (hrest:=hrest) F T hC hn hi hfI hfc fun h' e hm=>?_));exact hq h' e hm
end
end PySem
namespace PySem.W
open PySem PySem.Calls PyProof.Rows Builtin Builtin.ObjectAttr
def vErr4:List Value:=[.type "ValueError",.type "Exception",.type "BaseException",.type "object"]
noncomputable def r8:List Value->Bool
 | []=>false
 |v::r=>(v::r)==vErr4||(match v with| .ref _=>r8 r|_=>false)
theorem lR(self:Value):∀{l:List Value},r8 l=true->refuseLoop self "__setattr__" l=pure ()
 | [],e=>by cases e
 |v::r,e=>by
  unfold r8 at e;rcases Bool.or_eq_true_iff.mp e with q|q
  ·rw[show(v::r)=vErr4 from HC.mp q];exact PySem.F.store_ValueError.passes self
  ·split at q
   ·rw[refuseLoop_ref];exact lR self q
   ·cases q
theorem mV{T:String}(hT:vErr4.contains (.type T)=true):∀{l:List Value},r8 l=true->l.contains (.type T)=true
 | [],e=>by cases e
 |v::r,e=>by
  unfold r8 at e;rcases Bool.or_eq_true_iff.mp e with q|q
  ·rw[show(v::r)=vErr4 from HC.mp q];exact hT
  ·split at q
   ·rw[List.contains_cons,mV hT q,Bool.or_true]
   ·cases q
noncomputable def jC(K:Frag)(C:Addr):Bool:=(clsIn K C).any fun cd=>r8 cd.mro&&cd.hasDict
section
variable{K:Frag}{prog:Program}{w:World}{A:Around}{R:Result->Shared->Prop}{s:Shared}{x C:Addr}
theorem rW{ox:Obj}{od:Option Obj}{name:Str}{tk:Tok}{v:Value}{r:Option Value}(X:K.In s.heap)(I:InstAt s.heap x ox C od)(hp:jC K C=true)(ht:takerIn K C name=some r)
  (h:∀b,wpAny (model prog w) A.in1 (match r with|some a=>setByDescriptor a (.ref x) v|none=>storeInOwnDict (.ref x) (.ref C) (.str name tk) name v b)
   (fun fin s'=>match fin with| .done f=>R (.ok f) s'| .again c'=>c'.quiet=true/\codeAny (model prog w) A c' R s') (fun e s'=>R (.error e) s') s):
  codeAny (model prog w) A (.call (.builtin "object.__setattr__") ⟨[.ref x,.str name tk,v],[]⟩) R s:=by
 have SF:=PySem.F.store_ValueError;obtain⟨cd,hc,ho⟩:=any_some hp;obtain⟨ho,_⟩:=GZ.mp ho;have ne:cd.mro.isEmpty=false:=by cases q:cd.mro with|nil=>rw[q]at ho;cases ho|cons _ _=>rfl
 have sub:Looks (model prog w) s.heap (isInstance (.ref x) (.type "object")) true:=I.type.andThen (looks_mroIn X (by unfold mroIn;rw[hc,Option.bind_some,F6 (by rw[ne];decide),mV rfl ho]));refine codeAny_call_builtin SF.slot.plain SF.entry (@check_slot (model prog w) _ _ s "object.__setattr__" "object" "__setattr__" (.ref x) [.str name tk,v] [] _ SF.kind SF.split sub (SF.args (.ref x) (.str name tk) v) ?_);obtain⟨attr,ha,hr⟩:=Option.bind_eq_some_iff.mp ht;have hm:Looks (model prog w) s.heap (mroOf (.ref C)) cd.mro:=(looks_clsIn X hc).andThen .now;have L3:Looks (model prog w) s.heap (storeTaker? attr) r:=by
  cases attr with
  |none=>cases hr;exact .now
  |some a=>obtain⟨b,hb,rfl⟩:=Option.map_eq_some_iff.mp hr;refine(looks_takesIn X hb).andThen ?_;cases b<;>exact .now
 rw[osa_eq,refuse_eq];refine FZ (FZ (I.type.here (FZ (hm.here ?_))));rw[lR _ ho];refine F3 (FZ (I.type.here (FZ ((looks_findIn X ha).here (FZ (L3.here ?_))))));exact h _
theorem wb{E:Value->Shared->Prop}{ox:Obj}{name:Str}{v:Value}{Q:Unit->Shared->Prop}(X:K.In s.heap)(hx:s.heap.get? x=some ox)(hcl:ox.cls=.ref C)(hnc:notCls ox=true)(hdn:ox.dict=none)
  (hs:findIn K (.ref C) "__setattr__"=some (some (.builtin "object.__setattr__"))) (hp:jC K C=true) (ht:takerIn K C name=some none)
  (hq:∀h',(∀b o,b≠x->s.heap.get? b=some o->h'.get? b=some o)->h'.get? x=some {ox with dict:=some s.heap.objs.size}->h'.Ns1 s.heap.objs.size (fun y=>if y=name then some v else none)->∀t',Q () {s with heap:=h',toks:=t'}):
  wpAny (model prog w) A (setAttr (.ref x) name v) Q E s:=by
 have I:InstAt s.heap x ox C none:=⟨hx,hcl,hnc,by rw[hdn];trivial⟩;refine set_plain X I hs ?_;refine rW (s:={s with toks:=s.toks+1}) X I hp ht fun b=>?_;obtain⟨cd,hc,ho⟩:=any_some hp;obtain⟨_,hd'⟩:=GZ.mp ho;obtain⟨hh,g,d,t,os⟩:=s;obtain⟨oc,odi,oda,osl⟩:=ox;dsimp only at hcl hdn;subst hcl hdn;have hx₁:(hh.push {cls:=.type "dict",data:=.dict #[]}).get? x=some ⟨.ref C,none,oda,osl⟩:=F0 _ hx;have hxs:x≠hh.objs.size:=Gz (Gf hx);refine FZ (F3 (FZ (FZ (wpAny_loadPart hx (FZ (Looks.here (s:=⟨hh,g,d,t+1,os⟩) (looks_clsIn X hc) ?_))))));rw[hd'];rw[F6 (by decide)];split
 ·rename_i hcd;cases hcd
 rw[F6 (by simp[typeHasDict])];split
 ·rename_i c hcd;rw[show oda=Data.cls c from hcd]at hnc;cases hnc
 refine FZ (wpAny_alloc' ?_);refine FZ (wpAny_update' hx₁ ?_);refine F3 ?_;have hgd:((hh.push {cls:=.type "dict",data:=.dict #[]}).update x fun o=>{cls:=o.cls,dict:=some hh.objs.size,data:=o.data,slots:=o.slots}).get? hh.objs.size
   =some {cls:=.type "dict",data:=.dict #[]}:=
  (Heap.get?_update_ne _ _ _ _ hxs.symm).trans (Heap.get?_push_at rfl rfl)
 have hnd:((hh.push {cls:=.type "dict",data:=.dict #[]}).update x fun o=>{cls:=o.cls,dict:=some hh.objs.size,data:=o.data,slots:=o.slots}).Ns hh.objs.size (fun _=>none):=
  ⟨_,#[],_,hgd,rfl,fun e he=>absurd he (by simp),fun _=>rfl⟩
 show wpAny _ _ (storeInDict hh.objs.size (.str name t) name v) _ _ _;unfold storeInDict newKeyGuard;refine FZ (F3 (FZ (wpAny_nsSet1 (Heap.Ns1.of_empty hnd) fun h' hn' hs2=>?_)));obtain⟨oD,esD,epD,hoD,hdD,hcD⟩:=hn'.count (Within.cons name v Within.nil);refine FZ (wpAny_lookBehind hoD (by rw[hdD];exact pastItsLine_dict (GA hcD (by rw[Gs,List.length_nil,Hm];omega))) ?_);refine F3 (hq h' (fun b ob hbx hb=>?_) ?_ hn' _)
 ·exact(hs2.2 b (Gz (Gf hb))).trans ((Heap.get?_update_ne _ _ _ _ hbx).trans (F0 _ hb))
 ·refine(hs2.2 x hxs).trans (G3 _ hx₁ ?_);have hfr:=(Heap.get?_some_iff.mp hx).2;cases oda<;>first|rfl|exact hfr
theorem yf{E:Value->Shared->Prop}{ox:Obj}{dx:Addr}{mA:Str->Option Value}{ns:List Str}{name:Str}{v:Value}{Q:Unit->Shared->Prop}(X:K.In s.heap)(hx:s.heap.get? x=some ox)(hcl:ox.cls=.ref C)(hnc:notCls ox=true)(hdx:ox.dict=some dx)(hns:s.heap.Ns1 dx mA)
  (hs:findIn K (.ref C) "__setattr__"=some (some (.builtin "object.__setattr__"))) (hp:jC K C=true) (ht:takerIn K C name=some none) (hw:Within mA ns) (hsz:ns.length<sizeLine)
  (hq:∀h',(∀b,b≠dx->h'.get? b=s.heap.get? b)->h'.Ns1 dx (fun y=>if y=name then some v else mA y)->∀t',Q () {s with heap:=h',toks:=t'}):
  wpAny (model prog w) A (setAttr (.ref x) name v) Q E s:=by
 obtain⟨od,es0,ep0,hod,_⟩:=id hns;have I:InstAt s.heap x ox C (some od):=⟨hx,hcl,hnc,by rw[hdx];exact hod⟩;refine set_plain X I hs ?_;refine rW (s:={s with toks:=s.toks+1}) X I hp ht fun b=>?_;obtain⟨cd,hc,ho⟩:=any_some hp;obtain⟨_,hd'⟩:=GZ.mp ho;obtain⟨hh,g,d,t,os⟩:=s;obtain⟨oc,odi,oda,osl⟩:=ox;dsimp only at hcl hdx;subst hcl hdx;refine FZ (F3 (FZ (FZ (wpAny_loadPart hx (FZ (Looks.here (s:=⟨hh,g,d,t+1,os⟩) (looks_clsIn X hc) ?_))))));rw[hd'];refine F3 (a:=some dx) ?_;show wpAny _ _ (storeInDict dx (.str name t) name v) _ _ _;unfold storeInDict newKeyGuard;refine FZ (F3 (FZ (wpAny_nsSet1 hns fun h' hn' hs2=>?_)));obtain⟨oD,esD,epD,hoD,hdD,hcD⟩:=hn'.count (Within.cons name v hw);refine FZ (wpAny_lookBehind hoD (by rw[hdD];exact pastItsLine_dict (GA hcD (by rw[Gs];omega))) ?_);exact F3 (hq h' (fun b hb=>hs2.2 b hb) hn' _)
end
section
variable{K:Frag}{prog:Program}{w:World}{A:Around}{E:Value->Shared->Prop}{x C dx:Addr}{ox:Obj}{mA:Str->Option Value}{name:Str}{v:Value}
 {hh:Heap} {g:Array GenState} {d:Drawn} {t:Nat} {os:OsState}
theorem wR{tk:Tok}{Q:Fin->Shared->Prop}(X:K.In hh)(hx:hh.get? x=some ox)(hcl:ox.cls=.ref C)(hnc:notCls ox=true)(hdx:ox.dict=some dx)(hns:hh.Ns1 dx mA)(hv:mA name=some v)
  (hp:jC K C=true) (hna:findIn K (.ref C) name=some none) (hq:Q (.done (.ret v)) ⟨hh,g,d,t,os⟩):
  wpAny (model prog w) A (Builtin.«object.__getattribute__» ⟨[.ref x,.str name tk],[]⟩) Q E ⟨hh,g,d,t,os⟩:=by
 obtain⟨cd,hc,ho⟩:=any_some hp;obtain⟨_,hd'⟩:=GZ.mp ho;unfold Builtin.«object.__getattribute__»
 repeat (first|(with_reducible refine G4 hx ?_;rw[hcl])|(with_reducible refine Looks.here (s:=⟨hh,g,d,t,os⟩) (looks_findIn X hna) ?_)|wp_step)
 split
 ·rename_i c hcd;unfold notCls at hnc;rw[hcd]at hnc;cases hnc
 unfold instanceDict
 repeat (first|(with_reducible refine G4 hx ?_;rw[hcl])|(with_reducible refine Looks.here (s:=⟨hh,g,d,t,os⟩) (looks_clsIn X hc) ?_;rw[hd'])|wp_step)
 rw[hdx]
 repeat (first|(with_reducible refine wpAny_nsGet hns.ns ?_;rw[hv])|wp_step)
 exact hq
theorem yJ{tk:Tok}{R:Result->Shared->Prop}(X:K.In hh)(hx:hh.get? x=some ox)(hcl:ox.cls=.ref C)(hnc:notCls ox=true)(hdx:ox.dict=some dx)(hns:hh.Ns1 dx mA)(hv:mA name=some v)
  (hp:jC K C=true) (hna:findIn K (.ref C) name=some none) (hq:R (.ok (.ret v)) ⟨hh,g,d,t,os⟩):
  codeAny (model prog w) A (.call (.builtin "BaseException.__getattribute__") ⟨[.ref x,.str name tk],[]⟩) R ⟨hh,g,d,t,os⟩:=by
 obtain⟨cd,hc,ho⟩:=any_some hp;obtain⟨ho,_⟩:=GZ.mp ho;obtain⟨od,es0,ep0,hod,_⟩:=id hns;have I:InstAt hh x ox C (some od):=⟨hx,hcl,hnc,by rw[hdx];exact hod⟩;have ne:cd.mro.isEmpty=false:=by cases q:cd.mro with|nil=>rw[q]at ho;cases ho|cons _ _=>rfl
 have sub:Looks (model prog w) hh (isInstance (.ref x) (.type "BaseException")) true:=I.type.andThen (looks_mroIn X (by unfold mroIn;rw[hc,Option.bind_some,F6 (by rw[ne];decide),mV rfl ho]));exact codeAny_call_builtin PySem.F.excAttr_ValueError.ga.plain PySem.F.entry_bexc_ga (@check_slot (model prog w) _ _ ⟨hh,g,d,t,os⟩ "BaseException.__getattribute__" "BaseException" "__getattribute__" (.ref x) [.str name tk] [] _ (by decide+kernel) (by decide+kernel) sub (PySem.F.args_bexc_ga (.ref x) (.str name tk)) (wR X hx hcl hnc hdx hns hv hp hna hq))
theorem FQ{expr:Bool}{Q:Value->Shared->Prop}(X:K.In hh)(hx:hh.get? x=some ox)(hcl:ox.cls=.ref C)(hnc:notCls ox=true)(hdx:ox.dict=some dx)(hns:hh.Ns1 dx mA)(hv:mA name=some v)
  (hp:jC K C=true) (hga:findIn K (.ref C) "__getattribute__"=some (some (.builtin "BaseException.__getattribute__"))) (hgt:findIn K (.ref C) "__getattr__"=some none) (hna:findIn K (.ref C) name=some none) (hh':handedOut v=pure v)
  (hq:Q v ⟨hh,g,d,t+1,os⟩):wpAny (model prog w) A (getAttr (.ref x) name expr) Q E ⟨hh,g,d,t,os⟩:=by
 have f3:=PySem.F.excAttr_ValueError.ga.bind (.ref x);have hx0:(expr&&onTheHeap (Value.builtin "BaseException.__getattribute__"))=false:=by cases expr<;>rfl
 have hx2:(Value.builtin "BaseException.__getattribute__"==Value.builtin "object.__getattribute__")=false:=by decide+kernel
 have hx1:(onTheHeap (Value.ref C)&&Value.builtin "BaseException.__getattribute__"==Value.builtin "object.__getattribute__")=false:=by rw[hx2];rfl
 unfold getAttr getAttrBy
 repeat (any_goals (first|assumption|(with_reducible refine G4 hx ?_;rw[hcl])|(with_reducible refine Looks.here (s:=⟨hh,g,d,t+1,os⟩) (looks_findIn X hga) ?_)|(with_reducible refine Looks.here (s:=⟨hh,g,d,t+1,os⟩) (looks_findIn X hgt) ?_)|wp_step))
 refine yJ X hx hcl hnc hdx hns hv hp hna ?_;show wpAny _ _ (handedOut v) _ _ _;rw[hh'];exact F3 hq
end
end PySem.W
namespace PySem.W
open PySem PySem.Calls PyProof.Rows
theorem wB{K:Frag}{h:Heap}{N:Addr}{mg:Str->Option Value}{n:Str}{v:Value}(X:K.In h)(G:h.Ns N mg)(e:nsIn K N n=some (some v)):mg n=some v:=by
 obtain⟨o,es,ep,ho,hd,_,hf⟩:=G;unfold nsIn at e;split at e
 ·rename_i c d es' n' sl q;have:=X _ _ q;rw[ho]at this;cases this;cases hd;split at e
  ·rename_i en he;cases e;rw[<-hf];unfold nsFind findBy;rw[<-Array.find?_toList,he];rfl
  ·split at e<;>cases e
 ·cases e
noncomputable def CW(K:Frag)(C:Addr)(bmB:List Value)(newId:String)(fI:Addr)(c:Value)(mro:List Value)(ns:Addr)(del:Bool)(sl:Array (Option Value)):Bool:=
 c== .type "type"&&(sl.size==6&&(sl[4]? ==some (some (.builtin newId))&&(mro.head?==some (.ref C)&&(!del&&(tailIn K bmB mro.tail&&(nsOkIn K ns&&nsIn K ns "__init__"==some (some (.ref fI))))))))
noncomputable def jK(K:Frag)(C:Addr)(bmB:List Value)(newId:String)(fI:Addr):Bool:=(K.lookup C).any fun o=>match o.data with
 | .cls cd=>CW K C bmB newId fI o.cls cd.mro cd.ns cd.hasDel o.slots
 |_=>false
theorem Dl{α:Type}{l:Array α}{x:α}(h:l.size=6)(e:l[4]?=some x):∃a b c d f,l= #[a,b,c,d,x,f]:=by obtain⟨l⟩:=l;obtain⟨a,l,rfl⟩:=Hd h;obtain⟨b,l,rfl⟩:=Hd (GG h);obtain⟨c,l,rfl⟩:=Hd (GG (GG h));obtain⟨d,l,rfl⟩:=Hd (GG (GG (GG h)));obtain⟨y,l,rfl⟩:=Hd (GG (GG (GG (GG h))));obtain⟨f,rfl⟩:=List.length_eq_one_iff.1 (GG (GG (GG (GG (GG h)))));cases e;exact⟨a,b,c,d,f,rfl⟩
theorem i4{K:Frag}{h:Heap}{C fI:Addr}(X:K.In h)(z:jK K C vErr4 "ValueError.__new__" fI=true):
  ∃tl N nm qn bs hd sn sub ab col dd k0 k1 k2 k3 k5 mN,h.get? C=some (excClassObj nm qn C N bs tl hd sn sub ab col dd k0 k1 k2 k3 k5 "ValueError.__new__")/\h.Ns N mN/\mN "__init__"=some (.ref fI)/\OwnTail h vErr4 tl/\∀b r,mroIn K C b=some r->(Value.ref C::tl).contains b=r:=by
 unfold jK at z;cases ho:K.lookup C
 case none=>rw[ho]at z;cases z
 case some o=>
  rw[ho]at z;obtain⟨c,dd,da,sl⟩:=o;cases da
  case cls cd=>
   obtain⟨nm,bs,mro,ns,qn,hd,sn,sub,ab,col,del⟩:=cd;have z:CW K C vErr4 "ValueError.__new__" fI c mro ns del sl=true:=z;obtain⟨z1,z⟩:=GZ.1 z;obtain⟨z2,z⟩:=GZ.1 z;obtain⟨z3,z⟩:=GZ.1 z;obtain⟨z4,z⟩:=GZ.1 z;obtain⟨z5,z⟩:=GZ.1 z;obtain⟨z6,z⟩:=GZ.1 z;obtain⟨z7,z8⟩:=GZ.1 z;obtain⟨tl,rfl⟩:=List.head?_eq_some_iff.1 (eq_of_beq z4);obtain⟨k0,k1,k2,k3,k5,rfl⟩:=Dl (eq_of_beq z2) (eq_of_beq z3);cases eq_of_beq z1;cases Bool.not_eq_true' _ |>.mp z5;have hN:h.Ns ns _:=.of_isNs (isNs_of_in X z7)
   exact⟨tl,ns,nm,qn,bs,hd,sn,sub,ab,col,dd,k0,k1,k2,k3,k5,_,X _ _ ho,hN,wB X hN (eq_of_beq z8),tail_of_in X z6,fun b r hr=>by
    unfold mroIn clsIn at hr;rw[ho]at hr
    exact GB hr⟩
  all_goals cases z
section
variable{K:Frag}{prog:Program}{w:World}{A:Around}{E:Value->Shared->Prop}{x C:Addr}{hh:Heap}{g:Array GenState}{d:Drawn}{t:Nat}{os:OsState}
 {nm q:Str} {N:Addr} {bs bm:List Value} {hdct:Bool} {sn:List Str} {sub:List Value} {ab:Bool} {col:Option Bool} {dd:Option Addr} {k0 k1 k2 k3 k5:Option Value} {newId:String}
theorem E3{t0:Addr}{rest:List Value}{Q:Value->Shared->Prop}(T:OwnTail hh vErr4 bm)(hC:hh.get? C=some (excClassObj nm q C N bs bm hdct sn sub ab col dd k0 k1 k2 k3 k5 "ValueError.__new__"))
  (hx:hh.get? x=some {cls:=.ref C,data:=.fields #[.ref t0,.none,.none,.none,.bool false,.none]})
  (hq:∀h',(∀b o,b≠x->hh.get? b=some o->h'.get? b=some o)->h'.get? x=some {cls:=.ref C,data:=.fields #[.ref hh.objs.size,.none,.none,.none,.bool false,.none]}->Q .none ⟨h',g,d,t,os⟩) (hrest:rest.length<=sizeLine:=by size_fits):
  wpAny (model prog w) A (call (.builtin "ValueError.__init__") (.ref x::rest)) Q E ⟨hh,g,d,t,os⟩:=by
 have F:=PySem.F.excBase_ValueError;refine wpAny_call (codeAny_call_builtin F.init.plain F.initEntry (wpAny_check_init_subT F T hC hx rfl ?_))
 wp_walk
 have hx₁:(hh.push {cls:=Value.type "tuple",data:=Data.seq rest.toArray}).get? x=some {cls:=.ref C,data:=.fields #[.ref t0,.none,.none,.none,.bool false,.none]}:=F0 _ hx;refine hq _ (fun b o ne e=>?_) ?_
 ·rw[GW _ _ (Hg ne)];exact F0 _ e
 ·rw[G3 _ hx₁ rfl];rfl
end
end PySem.W
namespace L2
open PySem PySem.Spec PyProof.Rows
noncomputable def XO(x C:Addr)(d:Option Addr):HO:=.ext fun h=>∃t0,h.get? x=some {cls:=.ref C,dict:=d,data:=.fields #[.ref t0,.none,.none,.none,.bool false,.none]}
noncomputable def XD(a:Addr)(fs:List (Str×V)):HO:=.ext fun h=>∃mA,h.Ns1 a mA/\(∀f,gY (fs.lookup f) (mA f))/\PySem.Within mA (fs.map (·.1))
section
variable{P:Program}{w:World}{H:Hp}{h:Heap}{x C a:Addr}{d:Option Addr}{fs:List (Str×V)}
theorem y0(e:∃t0,h.get? x=some {cls:=.ref C,dict:=d,data:=.fields #[.ref t0,.none,.none,.none,.bool false,.none]}):bN P w H h x (XO x C d):=by obtain⟨t0,e⟩:=e;exact⟨⟨t0,e⟩,⟨_,e⟩,fun h1 h2 ⟨t,e1⟩ k=>⟨t,k _ e1⟩⟩
theorem CJ{mA:Str->Option Value}(n:h.Ns1 a mA)(r:∀f,gY (fs.lookup f) (mA f))(w':PySem.Within mA (fs.map (·.1))):bN P w H h a (XD a fs):=by obtain⟨o,es,ep,e,c⟩:=id n;exact⟨⟨mA,n,r,w'⟩,⟨o,e⟩,fun h1 h2 ⟨mA',⟨o1,es1,ep1,e1,c1⟩,r1,w1⟩ k=>⟨mA',⟨o1,es1,ep1,k _ e1,c1⟩,r1,w1⟩⟩
end
theorem zj{H:Hp}{a:Addr}{o:HO}(e:H a=some o):upd H a o=H:=by
 funext b;unfold upd;split
 ·rename_i z;rw[z,e]
 ·rfl
section
variable{X:Cx}{pins:List (Addr×Obj)}{σ:St}{H:Hp}{s:Shared}
theorem Inv.trackO{x C:Addr}{d:Option Addr}(I:Inv X pins σ H s)(n1:X.s₀.heap.get? x=none)(u1:H x=none)(p2:∀p∈X.pn++pins,p.1≠x)(p3:∀y c,X.env.cells.lookup y=some c->c≠x)(p4:x≠X.env.locals)
  (e:∃t0,s.heap.get? x=some {cls:=.ref C,dict:=d,data:=.fields #[.ref t0,.none,.none,.none,.bool false,.none]}):Inv X pins σ (upd H x (XO x C d)) s:=by
 have nx:∀b u,H b=some u->b≠x:=fun b u e z=>by rw[z,u1]at e;cases e
 refine⟨I.ok,I.os,I.bare,⟨I.base.keep,I.base.slot,fun b o' e1 n hx=>?_,I.base.there,fun b xs e1=>?_,fun b o' u e1=>?_,fun b ps e1=>?_⟩,I.loc,I.cell,?_,fun y c e1=>?_,fun p hp=>?_,fun b u e1=>?_,I.len⟩
 ·rw[az (fun z=>by rw[z,n1]at e1;cases e1)];exact I.base.free b o' e1 n hx
 ·have q:=I.base.tups b xs e1;rw[az (nx b _ q)];exact q
 ·have q:=I.base.frzs b o' u e1;rw[az (nx b _ q)];exact q
 ·obtain⟨more,q⟩:=I.base.tbls b ps e1;exact⟨more,by rw[az (nx b _ q)];exact q⟩
 ·rw[az (Hg p4)];exact I.free
 ·rw[az (p3 y c e1)];exact I.freeC y c e1
 ·obtain⟨a1,a2,a3⟩:=I.pin p hp;exact⟨a1,by rw[az (p2 p hp)];exact a2,a3⟩
 ·by_cases hb:b=x
  ·subst hb;rw[af]at e1;cases e1;exact y0 e
  ·rw[az hb]at e1;refine(I.hok b u e1).stay (fun _ _ _ q=>q) (fun c q=>?_) fun c xs q=>?_
   ·rw[az (nx c _ q)];exact q
   ·rw[az (nx c _ q)];exact q
structure yV(K:Frag)(mg:Str->Option Value)(x:Str)(C fI:Addr):Prop where
 mg:mg x=some (.ref C)
 ok:PySem.W.jK K C PySem.W.vErr4 "ValueError.__new__" fI=true
 fn:PySem.W.isFn K (.ref fI)=true
 kp:keepIn K (.ref C)=true
def vZ(C:Addr)(sp:Sp)(E:XK)(t:TA):TE:=fun σ H Q=>t σ H fun vs H1=>vs.length<=sizeLine/\∀x,H1 x=none->sp (.ref x::vs) (upd H1 x (XO x C none)) (fun v H2=>v=.non/\Q (.ref x) H2) E
theorem yi{CX:CXT}{k:Nat}{f C:Addr}{fd:FuncData}{ps:List Str}{sp:Sp}{E:XK}{c:Str}{Q:VK}{us:List Value}{vs:List V}(M:yV X.K X.mg c C f)(F:ji X.prog X.w X.K X.mg X.base CX k f fd ps sp)(hr:cb (k+1) X.A)(hb:Binds X.K fd ps [])
  (hx:Passes CX X E) (hex:X.ex=[]) (I:Inv X pins σ H s) (r:Vals vs us) (hl:vs.length<=sizeLine)
  (h:∀x,H x=none->sp (.ref x::vs) (upd H x (XO x C none)) (fun v H2=>v=.non/\Q (.ref x) H2) E):
  wpAny (model X.prog X.w) X.A (call (.ref C) us) (EP X pins σ Q) X.xe s:=by
 obtain⟨tl,N,nm,qn,bs,hdt,sn,sub,ab,col,dd,k0,k1,k2,k3,k5,mN,hC,hN,hi,T,_⟩:=PySem.W.i4 I.kIn M.ok;have hx0:us.length<=sizeLine:=by rw[<-r.length];exact hl
 obtain⟨oI,hfI,hfc⟩:∃oI,s.heap.get? f=some oI/\oI.cls=.type "function":=by have z:=HC.mp M.fn;obtain⟨o,ho,hc⟩:=Option.map_eq_some_iff.mp z;exact⟨o,I.kIn _ _ ho,hc⟩
 obtain⟨hp,g,d,tk,os⟩:=s;refine fU (hrest:=hx0) PySem.F.excBase_ValueError T hC hN hi hfI hfc fun h' x hm=>?_;obtain⟨p1,p2,p3,p4⟩:=I.apart hex hm.new;obtain⟨tt,ht,_,_⟩:=hm.there;have I2:=(I.kept (t':=tk) hm.keeps).trackO p1 (I.untr hm.new) p2 p3 p4 ⟨tt,ht⟩;have hq:=h x (I.untr hm.new);have r2:Vals (V.ref x::vs) (Value.ref x::us):=.cons rfl r;have hl2:(Value.ref x::us++[]).length=ps.length:=by have e:=r2.length;rw[F.len _ _ _ _ hq]at e;rw[GF];exact e.symm
 have hb':=hb _ (Value.ref x::us) I2.kIn hl2;rw[GF]at hb';refine wpAny_call (codeAny_mono (F.run _ X.stack _ _ ⟨Value.ref x::us,[]⟩ (Value.ref x::us) _ _ E (hr.make C us []) (I2.env0.make C us []) hb' r2 hq) fun z s' hq'=>?_);cases z with
 |error e=>exact hx pins σ _ _ e s' I2 hq'
 |ok fl=>
  cases fl with
  |ret u=>obtain⟨v,H',I3,rv,ev,q3⟩:=I2.after hq';subst ev;exact⟨rv,⟨V.ref x,H',I3,rfl,q3⟩⟩
  |next=>exact False.elim hq'
  |brk=>exact False.elim hq'
  |cont=>exact False.elim hq'
theorem BI{CX:CXT}{k:Nat}{f C:Addr}{fd:FuncData}{ps:List Str}{sp:Sp}{E:XK}{c:Str}{e:Expr}{es:List Expr}{t:TA}{np pos:Pos}(M:yV X.K X.mg c C f)(F:ji X.prog X.w X.K X.mg X.base CX k f fd ps sp)(hr:cb (k+1) X.A)(hb:Binds X.K fd ps [])(hx:Passes CX X E)
  (ha:PA X (e::es) t) (hg:Gl X c:=by rfl) (hex:X.ex=[]:=by rfl) (hdb:(c==("__debug__":Str))=false:=by decide) (he:starEach (e::es) X.env=(false,eval e X.env)::starEach es X.env:=by rfl) (hpl:(backTo pos (starEach es X.env)).any (·.1)=false:=by rfl):
  PE X (.Call (.Name c np) (e::es) [] pos) (vZ C sp E t):=by
 intro pins s σ H Q I h;refine wpAny_Call_Name_kw (gx I hg M.mg ?_ hdb);refine PySem.W.callWith_K (h₀:=X.base) I.ok.mod.kin M.kp (thn (ha pos pins s σ H _ I h) fun us s1 ⟨vs,H1,I1,r,hl,q⟩=>⟨I1.kIn,?_⟩) he hpl;exact yi M F hr hb hx hex I1 r hl q
structure CH(K:Frag)(mg:Str->Option Value)(c:Str)(L:Addr):Prop where
 mg:mg c=some (.ref L)
 rd:PySem.W.readsIn K L (.type "type")=true
 sp:PySem.W.specialIn K (.ref L) "__getattribute__"=some (some (.builtin "type.__getattribute__"))
 fc:PySem.W.findCls K (.ref L) (.type "type") "__init__"=some (.val (.builtin "ValueError.__init__"))
def Dg(K:Frag)(t:TA):TE:=fun σ H Q=>t σ H fun vs H1=>∃x C f r,vs=.ref x::r/\r.length<=sizeLine/\H1 x=some (XO x C none)/\PySem.W.jK K C PySem.W.vErr4 "ValueError.__new__" f=true/\Q .non H1
theorem zS{c:Str}{L:Addr}{e:Expr}{es:List Expr}{t:TA}{np apos pos:Pos}{pl:Sem Bool}(Z:CH X.K X.mg c L)(ha:PA X (e::es) t)(hg:Gl X c:=by rfl)(hdb:(c==("__debug__":Str))=false:=by decide)
  (hst:starEach (e::es) X.env=(false,eval e X.env)::starEach es X.env:=by rfl) (hpl:(backTo pos (starEach es X.env)).any (·.1)=false:=by rfl)
  (ht:eval (.Call (.Attribute (.Name c np) "__init__" apos) (e::es) [] pos) X.env=(do
   let ov <-eval (.Name c np) X.env
   standAt apos.atName
   let (f,first) <-holding [ov] (getMethod ov "__init__" pl)
   callWith pos f first (backTo pos (starEach (e::es) X.env)) (backToKw pos (keywordEach [] X.env))):=by rfl):
  PE X (.Call (.Attribute (.Name c np) "__init__" apos) (e::es) [] pos) (Dg X.K t):=by
 intro pins s σ H Q I h;refine PySem.W.methodCall_KW (pl:=pl) (thn (iU (v:=.ref L) hg Z.mg rfl hdb pins s σ H (fun x H1=>x=.ref L/\H1=H) I ⟨rfl,rfl⟩) fun u s1 hPz=>?_) ht;obtain⟨x,H1,I1,rx,ex,eH⟩:=hPz;subst ex eH;obtain rfl:u=Value.ref L:=rx;refine PySem.W.method_cls I1.kIn Z.sp (PySem.W.cls_value I1.kIn Z.rd Z.fc (by decide+kernel) ?_);refine PyProof.Rows.callWith_builtin1 (thn (ha pos pins _ σ _ _ (I1.tok _) h) fun us s2 hPz=>?_) hst hpl;obtain⟨vs,H2,I2,r2,q2⟩:=hPz;obtain⟨x,C,f,r,rfl,hl,hx,ok,q⟩:=q2;obtain⟨u0,us',rfl,r0,r1⟩:∃u0 us',us=u0::us'/\RelV (.ref x) u0/\Vals r us':=by
  cases r2 with
  |cons a b=>exact⟨_,_,rfl,a,b⟩
 obtain rfl:u0=Value.ref x:=r0;obtain⟨tl,N,nm,qn,bs,hdt,sn,sub,ab,col,dd,k0,k1,k2,k3,k5,mN,hC,hN,hi,T,_⟩:=PySem.W.i4 I2.kIn ok;obtain⟨t0,ht0⟩:=(I2.hok x _ hx).1;obtain⟨hp,g,d,tk,os⟩:=s2;refine PySem.W.E3 T hC ht0 (fun h' keep e'=>?_) (by rw[<-r1.length];exact hl);have J:=I2.write (x:=x) (e:=x) (o:=XO x C none) (t':=tk) (by rw[hx];trivial) (.inl rfl) keep ⟨_,e'⟩ (y0 ⟨_,e'⟩);rw[zj hx]at J;exact⟨.non,H2,J,rfl,q⟩
theorem rQ{fs:List (Str×V)}{mA:Str->Option Value}{f:Str}{y:V}{u:Value}(r:∀g,gY (fs.lookup g) (mA g))(ry:RelV y u):∀g,gY (((f,y)::fs).lookup g) (if g=f then some u else mA g):=fun g=>by
 by_cases z:g=f
 ·subst z;rw[F8 rfl,List.lookup_cons,beq_self_eq_true];exact ry
 ·rw[F6 z,List.lookup_cons,show(g==f)=false from G6.mpr z];exact r g
structure A8(K:Frag)(C:Addr)(f:Str):Prop where
 st:findIn K (.ref C) "__setattr__"=some (some (.builtin "object.__setattr__"))
 pl:PySem.W.jC K C=true
 tk:PySem.W.takerIn K C f=some none
noncomputable def EE (K : PySem.W.Frag) (ta tv : TE) (f : Str) : TS := fun D σ H => tv σ H fun y H1 => ta σ H1 fun x H2 => ∃ a C, x = .ref a ∧ A8 K C f ∧
  ((H2 a = some (XO a C none) ∧ ∀ dx, H2 dx = none → dx ≠ a → D.nx σ (upd (upd H2 a (XO a C (some dx))) dx (XD dx [(f, y)]))) ∨
   (∃ dx fs, H2 a = some (XO a C (some dx)) ∧ H2 dx = some (XD dx fs) ∧ fs.length ≤ 100 ∧ D.nx σ (upd H2 dx (XD dx ((f, y) :: fs)))))
theorem xr{o value:Expr}{f:Str}{pos pos':Pos}{ta tv:TE}(ha:PE X o ta)(hv:PE X value tv)(hs:swapsWith value (some (.Attribute o f pos')) pos.line X.env=pure false:=by rfl):PS X (.Assign [.Attribute o f pos'] value pos) (EE X.K ta tv f):=by
 intro pins s σ H D I h;refine plainObj_wpAny_Assign_Attribute (thn (hv pins s σ H _ I h) fun u s1 hPz=>L2.ep3 hPz fun y H1 I1 ry q=>thn (ha pins s1 σ H1 _ I1 q) fun ov s2 hPz=>?_) hs;obtain⟨x,H2,I2,rx,a,C,ex,F,alt⟩:=hPz;subst ex;obtain rfl:ov=Value.ref a:=rx;rcases alt with⟨hx,q⟩|⟨dx,fs,hx,hd,hlen,q⟩
 ·obtain⟨t0,ht0⟩:=(I2.hok a _ hx).1;refine PySem.W.wb I2.kIn ht0 rfl rfl rfl F.st F.pl F.tk fun h' keep e' n t'=>?_;have hm:(s2.heap.update a fun o=>{o with dict:=some s2.heap.objs.size}).get? a=some {cls:=.ref C,dict:=some s2.heap.objs.size,data:=.fields #[.ref t0,.none,.none,.none,.bool false,.none]}:=G3 _ ht0 rfl;have J1:=I2.write (h':=s2.heap.update a fun o=>{o with dict:=some s2.heap.objs.size}) (x:=a) (e:=a) (o:=XO a C (some s2.heap.objs.size)) (t':=t') (by rw[hx];trivial) (.inl rfl) (fun b u' ne e=>by rw[GW _ _ (Hg ne)];exact e) ⟨_,hm⟩ (y0 ⟨_,hm⟩);have hf:=I2.hok.fresh (F4 s2.heap.objs.size);have J2:=J1.laid (h':=h') (a:=s2.heap.objs.size) (o:=XD s2.heap.objs.size [(f,y)]) (t':=t') (fun b u' e=>?_) (by show(s2.heap.update a _).objs.size<=_;rw[Heap.size_update];exact F4 _) (CJ n (rQ (fs:=[]) (fun g=>trivial) ry) (PySem.Within.cons f u PySem.Within.nil))
  ·exact⟨σ,_,J2,q _ hf (fun z=>by rw[z,hx]at hf;cases hf)⟩
  ·by_cases hb:b=a
   ·subst hb;have e2:=hm.symm.trans e;cases e2;exact e'
   ·refine keep b u' hb ?_;have e2:(s2.heap.update a fun o=>{o with dict:=some s2.heap.objs.size}).get? b=some u':=e;rw[GW _ _ (Hg hb)]at e2;exact e2
 ·obtain⟨t0,ht0⟩:=(I2.hok a _ hx).1;obtain⟨mA,n0,r0,w0⟩:=(I2.hok dx _ hd).1;refine PySem.W.yf I2.kIn ht0 rfl rfl rfl n0 F.st F.pl F.tk w0 (by rw[FY];exact aN (by omega)) fun h' keep n t'=>?_;have J:=I2.write (x:=dx) (e:=dx) (o:=XD dx ((f,y)::fs)) (t':=t') (by rw[hd];trivial) (.inl rfl) (fun b u ne e=>by rw[keep b ne];exact e) (by obtain⟨o,es,ep,e,_⟩:=n;exact⟨o,e⟩) (CJ n ?_ ?_)
  ·exact⟨σ,_,J,q⟩
  ·exact rQ r0 ry
  ·exact PySem.Within.cons f u w0
structure RdX(K:Frag)(C:Addr)(f:Str):Prop where
 pl:PySem.W.jC K C=true
 ga:findIn K (.ref C) "__getattribute__"=some (some (.builtin "BaseException.__getattribute__"))
 gt:findIn K (.ref C) "__getattr__"=some none
 na:findIn K (.ref C) f=some none
end
end L2
namespace L2
open PySem PySem.Spec PyProof.Rows LM
structure eD(mg:Str->Option Value)(x:Str)(C:Addr):Prop where
 mg:mg x=some (.ref C)
theorem vI{mg:Str->Option Value}{x:Str}{C:Addr}(Z:eD mg x C):kf mg x=.ref C:=by unfold kf;rw[Z.mg];rfl
def Bm(C:Addr)(f g:Str):Sp:=fun vs H Q _=>∃x tv v u,vs=[.ref x,tv,v,u]/\H x=some (XO x C none)/\∀dx,H dx=none->dx≠x->Q .non (upd (upd H x (XO x C (some dx))) dx (XD dx [(g,u),(f,v)]))
section
variable{P:Program}{w:World}{K:Frag}{mg:Str->Option Value}{base:Heap}
structure TxX(K:Frag)(mg:Str->Option Value)(c:Str)(C:Addr)(st:Stmt)(ps:List Str)(qual:Str):Prop where
 ex:∃f fd,yV K mg c C f/\Fun K "__init__" qual st f fd/\Binds K fd ps []
structure DfX(P:Program)(w:World)(K:Frag)(mg:Str->Option Value)(base:Heap)(k:Nat)(c:Str)(C:Addr)(ps:List Str)(sp:Sp):Prop where
 ex:∃f fd,yV K mg c C f/\ji P w K mg base CX0 k f fd ps sp/\Binds K fd ps []
theorem C8{h:Heap}{c qual:Str}{C f:Addr}{st:Stmt}{ps:List Str}{oc:Value}{od an:Option Addr}{osl:Array (Option Value)}{kV doc pm cdv ct:Value}(X:K.In h)(G:h.Ns mainGlobals mg)
  (a:nsIn K mainGlobals c=some (some (.ref C))) (fi:findIn K (.ref C) "__init__"=some (some (.ref f))) (fn:PySem.W.isFn K (.ref f)=true) (kp:keepIn K (.ref C)=true)
  (l:K.lookup f=some ⟨oc,od,.func (fnOf "__init__" qual (cD st) (bB st) (aq st) .none kV doc pm an cdv ct),osl⟩)
  (cd:codeIn K cdv qual=true) (k:keepIn K (.ref f)=true) (ok:PySem.W.jK K C PySem.W.vErr4 "ValueError.__new__" f=true)
  (hb:∀(kV doc pm:Value)(an:Option Addr)(cdv ct:Value)(us:List Value),us.length=ps.length->bindArgs (fnOf "__init__" qual (cD st) (bB st) (aq st) .none kV doc pm an cdv ct) ⟨us,[]⟩=pure (ps.zip us)):TxX K mg c C st ps qual:=
 ⟨f,_,⟨HD X G a,ok,fn,kp⟩,qk l cd k,(qk l cd k).binds hb⟩
theorem Cs{h:Heap}{c:Str}{L:Addr}(X:K.In h)(G:h.Ns mainGlobals mg)(a:nsIn K mainGlobals c=some (some (.ref L)))(rd:PySem.W.readsIn K L (.type "type")=true)
 (sp:PySem.W.specialIn K (.ref L) "__getattribute__"=some (some (.builtin "type.__getattribute__"))) (fc:PySem.W.findCls K (.ref L) (.type "type") "__init__"=some (.val (.builtin "ValueError.__init__"))):CH K mg c L:=⟨HD X G a,rd,sp,fc⟩
theorem fB{h:Heap}{c:Str}{C:Addr}(X:K.In h)(G:h.Ns mainGlobals mg)(a:nsIn K mainGlobals c=some (some (.ref C))):eD mg c C:=⟨HD X G a⟩
end
section
variable{X:Cx}
theorem wo{j k:Nat}{c:Str}{C:Addr}{ps:List Str}{sp:Sp}{np pos:Pos}{e:Expr}{es:List Expr}{t:TA}(D:DfX X.prog X.w X.K X.mg X.base j c C ps sp)(hr:cb k X.A)(ha:PA X (e::es) t)(hg:Gl X c:=by rfl)(hj:j+1<=k:=by decide)(hex:X.ex=[]:=by rfl)
  (hdb:(c==("__debug__":Str))=false:=by decide) (he:starEach (e::es) X.env=(false,eval e X.env)::starEach es X.env:=by rfl) (hpl:(backTo pos (starEach es X.env)).any (·.1)=false:=by rfl):
  PE X (.Call (.Name c np) (e::es) [] pos) (vZ C sp E0 t):=by
 obtain⟨f,fd,M,F,b⟩:=D.ex;exact BI M F (hr.mono hj) b nQ ha hg hex hdb he hpl
end
end L2
namespace L2
open PySem
noncomputable def gE(s:Stmt):List Stmt:=match s with
 | .ClassDef _ _ _ b _ _ _ _ _ _ _=>b
 |_=>[]
end L2
namespace L2
theorem Bh{H:Hp}{x dx:PySem.Addr}{o u:HO}(ne:dx≠x):upd (upd H x o) dx u x=some o:=by rw[az (Hg ne),af]
theorem eD.uniq{mg:PySem.Str->Option PySem.Value}{x:PySem.Str}{C C':PySem.Addr}(h:eD mg x C)(h':eD mg x C'):C=C':=PySem.Value.ref.inj (GB (h.mg.symm.trans h'.mg))
end L2
namespace L2
open PySem PySem.Spec PyProof.Rows LM
def EN(K:Frag):List V->Hp->VK->Prop:=fun xs H Q=>EL K xs H Q\/EM K xs H Q
theorem j7{X:Cx}:dU X (.builtin "isinstance") (EN X.K):=by
 intro pins s σ H xs us Q I r h;rcases h with h|h
 ·exact qw pins s σ H xs us Q I r h
 ·exact AV pins s σ H xs us Q I r h
theorem Tx.dfF{P:Program}{w:World}{K:Frag}{mg:Str->Option Value}{base:Heap}{x:Str}{st:Stmt}{ps:List Str}{k:Nat}{sp:Sp}(T:Tx K mg x st ps)(h:∀vs H Q E,¬sp vs H Q E):Df P w K mg base k x ps sp:=by obtain⟨f,fd,F,b,hm⟩:=T.ex;exact⟨f,fd,⟨fun vs H Q E z=>absurd z (h vs H Q E),fun A outer s H args us vs Q E _ _ _ _ z=>absurd z (h vs H Q E)⟩,b,hm,F.kp⟩
mutual
inductive Pln:PyData->Prop
 |non:Pln .none
 |int (i:Int):Pln (.int i)
 |str (x:Str):Pln (.str x)
 |tup {ds:List PyData}:ds.length<=1000->vR ds->Pln (.tuple ds)
inductive vR:List PyData->Prop
 |nil:vR []
 |cons {d:PyData} {ds:List PyData}:Pln d->vR ds->vR (d::ds)
end
theorem eA.len{K:Frag}{H:Hp}:∀{ds:List PyData}{vs:List V},eA K H ds vs->vs.length=ds.length
 |_,_,.nil=>rfl
 |_,_,.cons _ h=>by rw[Gs,Gs,eA.len h]
theorem eA.at{K:Frag}{H:Hp}:∀{ds:List PyData}{vs:List V}{i:Nat}{v:V},eA K H ds vs->vs[i]?=some v->∃d,ds[i]?=some d/\IsD K H d v
 |_,_,_,_,.nil,e=>by simp at e
 |_,_,0,_,.cons a _,e=>by simp at e;subst e;exact⟨_,rfl,a⟩
 |_,_,i+1,_,.cons _ h,e=>by rw[List.getElem?_cons_succ]at e;obtain⟨d,hd,h'⟩:=eA.at h e;exact⟨d,by rw[List.getElem?_cons_succ];exact hd,h'⟩
theorem vR.at:∀{ds:List PyData}{i:Nat}{d:PyData},vR ds->ds[i]?=some d->Pln d
 |_,_,_,.nil,e=>by simp at e
 |_,0,_,.cons a _,e=>by simp at e;subst e;exact a
 |_,i+1,_,.cons _ h,e=>by rw[List.getElem?_cons_succ]at e;exact vR.at h e
theorem DZ{ds:List PyData}{i:Nat}{d:PyData}(e:ds[i]?=some d):d.depth<=PyData.depthAll ds:=by
 induction ds generalizing i with
 |nil=>simp at e
 |cons c ds ih=>
  show d.depth<=max c.depth (PyData.depthAll ds);cases i with
  |zero=>simp at e;subst e;omega
  |succ i=>rw[List.getElem?_cons_succ]at e;have:=ih e;omega
def spA(K:Frag)(m:Nat):Sp:=fun vs H Q _=>∃(v u:V)(d:PyData),vs=[v,u]/\IsD K H d v/\IsD K H d u/\Pln d/\d.depth<m/\Q (.bl true) H
end L2
namespace L2
open PySem PySem.Spec PyProof.Rows
def XB(X:Cx)(pins:List (Addr×Obj))(W:XK):Value->Shared->Prop:=fun e s'=>∃x C T σ' H2 s2 H' a0,e=.ref x/\Inv X pins σ' H2 s2/\s2.heap.get? x=none/\s2.heap.get? T=none/\Inv X pins σ' H' s'/\
 Trc s'.heap x T (.ref C) a0/\H' x=none/\H' T=none/\CtN s'.heap x/\W (.ref C) none H'
noncomputable abbrev Cx.tried(X:Cx)(pins:List (Addr×Obj))(W:XK):Cx:={X with pn:=X.pn++pins,xe:=XB X pins W}
structure Fe(K:Frag)(mg:Str->Option Value)(c:Str)(C:Addr):Prop where
 ok:PySem.W.excIn K C vErr "ValueError.__new__"=true
 ex:∃C',jN K mg c C'/\mroIn K C (.ref C')=some false
section
variable{X:Cx}{pins:List (Addr×Obj)}{σ:St}{H:Hp}{s:Shared}{W:XK}
theorem Inv.tried(I:Inv X pins σ H s)(W:XK):Inv (X.tried pins W) [] σ H s:=
 ⟨⟨I.ok.mod,I.ok.kind,I.ok.glob,I.ok.blt,I.ok.above,I.ok.inj,I.ok.has,I.ok.cab,I.ok.hd,I.ok.frames,I.ok.stk,I.ok.exf,I.ok.bs,I.ok.bsz,I.ok.noex,I.ok.exfs,I.ok.funs,I.ok.frf⟩,I.os,I.bare,I.base,I.loc,I.cell,I.free,I.freeC,fun p hp=>I.pin p (by simpa using hp),I.hok,I.len⟩
theorem Inv.untried{pins':List (Addr×Obj)}(I:Inv (X.tried pins W) pins' σ H s):Inv X pins σ H s:=
 ⟨⟨I.ok.mod,I.ok.kind,I.ok.glob,I.ok.blt,I.ok.above,I.ok.inj,I.ok.has,I.ok.cab,I.ok.hd,I.ok.frames,I.ok.stk,I.ok.exf,I.ok.bs,I.ok.bsz,I.ok.noex,I.ok.exfs,I.ok.funs,I.ok.frf⟩,I.os,I.bare,I.base,I.loc,I.cell,I.free,I.freeC,fun p hp=>I.pin p (GC _ hp),I.hok,I.len⟩
theorem SP.untried{D:Ends}{f:Flow}{s':Shared}(h:SP (X.tried pins W) [] D f s'):SP X pins D f s':=by
 cases f with
 |next=>obtain⟨σ',H',I,q⟩:=h;exact⟨σ',H',I.untried,q⟩
 |brk=>obtain⟨σ',H',I,q⟩:=h;exact⟨σ',H',I.untried,q⟩
 |cont=>obtain⟨σ',H',I,q⟩:=h;exact⟨σ',H',I.untried,q⟩
 |ret u=>obtain⟨v,σ',H',I,r,q⟩:=h;exact⟨v,σ',H',I.untried,r,q⟩
theorem zX{E':XK}(h:∀C o H,E' C o H->W C o H):Passes (CXe X.prog X.w) (X.tried pins W) E':=by rintro pins' σ H2 s2 e s' I2 ⟨x,C,T,H',a0,rfl,os,bare,un,hok,n1,n2,u1,u2,t,ct,ee⟩;exact⟨x,C,T,σ,H2,s2,H',a0,rfl,I2.untried,n1,n2,(I2.call' (ch:=[]) os un hok bare (fun _ z=>nomatch z)).untried,t,u1,u2,ct,h _ _ _ ee⟩
theorem yH{x T C:Addr}{a0:Value}{H2 H':Hp}{s2 s':Shared}{h5:Heap}{c:Str}{on:Option Str}{cp hp:Pos}{suite:List Stmt}{D:Ends}{rest:List ExceptHandler}(hst:X.stack=X.env::X.outer)(hex:X.ex=[])
  (I2:Inv X pins σ H2 s2) (n1:s2.heap.get? x=none) (n2:s2.heap.get? T=none) (I:Inv X pins σ H' s') (u1:H' x=none) (u2:H' T=none)
  (fl5:Heap.FlyingW (PySem.W.hideAll s'.heap (frs (X.env::X.outer)++[x,T])) (X.env::X.outer) x (.ref C) a0 h5) (us45:s'.heap.UpToSlots h5)
  (Z:Fe X.K X.mg c C) (hg:Gl X c) (hdb:(c==("__debug__":Str))=false) {E:Value->Shared->Prop}
  (hr:wpAny (model X.prog X.w) X.A (handleBy (.ref x) X.env rest) (SP X pins D) E {s' with heap:=h5}):
  wpAny (model X.prog X.w) X.A (handleBy (.ref x) X.env (.ExceptHandler (some (.Name c cp)) on suite hp::rest)) (SP X pins D) E {s' with heap:=h5}:=by
 obtain⟨p1,p2,p3,p4⟩:=I2.apart hex n1;obtain⟨r1,r2,r3,r4⟩:=I2.apart hex n2;obtain⟨C',Zc,hm⟩:=Z.ex;have J:=I.landed (t':=s'.toks) p1 r1 u1 u2 p2 r2 p3 r3 p4 r4 (hst▸fl5.1) us45;obtain⟨oe,he,hcl⟩:=fl5.there;obtain⟨tl,N,nm,qn,bs,hd,sn,sub,ab,col,dd,k0,k1,k2,k3,k5,mN,hC,_,_,_,hmr⟩:=iI J.kIn Z.ok;obtain⟨tl',N',nm',qn',bs',hd',sn',sub',ab',col',dd',j0,j1,j2,j3,j5,mN',hC',_,_,T',_⟩:=iI J.kIn Zc.ok;refine wpAny_handleBy_cons (codeAny_handlers_test (gx (X:=X.marked x) (J.marked x) hg Zc.mg ?_ hdb)) (by intro z;cases z);exact gU hC hC' he hcl (T'.hasType rfl) (hmr _ _ hm) hr
end
noncomputable def qF(f:Int×Int):Rat:=(f.1:Rat) / (f.2:Rat)
theorem oO{b:Int}(h:0<b):(b:Rat)≠0:=fun z=>by have:b=0:=Rat.intCast_inj.mp z;omega
theorem cast_pos{b:Int}(h:0<b):(0:Rat)<(b:Rat):=Rat.intCast_lt_intCast.mpr h
theorem FL{f g:Int×Int}(hf:0<f.2)(hg:0<g.2):qF f=qF g<->f.1*g.2=g.1*f.2:=by
 have a:=oO hf;have b:=oO hg;unfold qF;constructor
 ·intro e;apply Rat.intCast_inj.mp;rw[Rat.intCast_mul,Rat.intCast_mul];grind
 ·intro e;have:(f.1:Rat)*(g.2:Rat)=(g.1:Rat)*(f.2:Rat):=by rw[<-Rat.intCast_mul,<-Rat.intCast_mul,e]
  grind
theorem Dr{t b:Int}(h:0<b):qF (DW t b)=(t:Rat) / (b:Rat):=by
 have:=(FL (f:=DW t b) (g:=(t,b)) (Cj t h).pos h).mpr (by
  show frT t b*b=t*frB t b
  rw[AD,Int.mul_comm])
 exact this
theorem ES{f g:Int×Int}(hf:0<f.2)(hg:0<g.2):qF f<qF g<->ltF f g:=by
 unfold qF ltF;rw[Rat.div_lt_iff (cast_pos hf)];have e:(g.1:Rat) / (g.2:Rat)*(f.2:Rat)=((g.1:Rat)*(f.2:Rat)) / (g.2:Rat):=by have:=oO hg;grind
 rw[e,Rat.lt_div_iff (cast_pos hg),<-Rat.intCast_mul,<-Rat.intCast_mul,Rat.intCast_lt_intCast]
theorem Dq:qF (0,1)=0:=by
 unfold qF;have:(0:Rat) / 1=0:=by grind
 exact this
theorem ER:qF (1,1)=1:=by
 unfold qF;have:(1:Rat) / 1=1:=by grind
 exact this
theorem EO{f:Int×Int}(hf:0<f.2):0<qF f<->0<f.1:=by have:=ES (f:=(0,1)) (g:=f) (by decide) hf;rw[Dq]at this;rw[this];unfold ltF;omega
theorem FK{f:Int×Int}(hf:0<f.2)(h:0<=f.1):0<=qF f:=by
 rcases Int.lt_or_eq_of_le h with z|z
 ·exact Rat.le_of_lt ((EO hf).mpr z)
 ·unfold qF;rw[<-z];have:((0:Int):Rat) / (f.2:Rat)=0:=by
   have:((0:Int):Rat)=0:=rfl;grind
  rw[this];exact Rat.le_refl
noncomputable def qM(S:Sh):Rat:=(S.map fun p=>qF p.2).sum
theorem uB:qM []=0:=rfl
theorem dW(p:Str×Int×Int)(S:Sh):qM (p::S)=qF p.2+qM S:=by unfold qM;rw[F9,List.sum_cons]
theorem yb{S T:Sh}(h:S.Perm T):qM S=qM T:=by
 induction h with
 |nil=>rfl
 |cons p _ ih=>rw[dW,dW,ih]
 |swap p q l=>rw[dW,dW,dW,dW];grind
 |trans _ _ a b=>exact a.trans b
structure GS(ss:List Str)(S:Sh):Prop where
 nd:(S.map (·.1)).Nodup
 so:sortedS (S.map (·.1))=true
 ok:∀p∈S,uy p.2/\0<p.2.1
 fin:∀p∈S,¬FIN<p.2.2
 tot:qM S=1
 nm:∀p∈S,p.1∈ss
theorem CQ:∀{l m:List Str},l.Nodup->(∀x∈l,x∈m)->l.length<=m.length
 | [],m,_,_=>GO _
 |x::l,m,nd,h=>by rw[Hh]at nd;have hx:=h x (F7 ..);have ih:=CQ (l:=l) (m:=m.erase x) nd.2 fun y hy=>(List.mem_erase_of_ne (fun z:y=x=>nd.1 (by rw[<-z];exact hy))).mpr (h y (F1 _ hy));have:=List.length_erase_of_mem hx;have:0<m.length:=List.length_pos_of_mem hx;rw[Gs];omega
theorem zl:∀{S:Sh},(∀p∈S,0<=qF p.2)->0<=qM S
 | [],_=>by rw[uB];exact Rat.le_refl
 |p::S,h=>by rw[dW];have a:=h p (F7 ..);have b:=zl fun q hq=>h q (F1 _ hq);grind
theorem zm:∀{S:Sh},(∀p∈S,0<=qF p.2)->∀p∈S,qF p.2<=qM S
 |q::S,h,p,hp=>by
  rw[dW];have a:=h q (F7 ..);have b:=zl fun r hr=>h r (F1 _ hr);rcases Gg.mp hp with e|e
  ·subst e;grind
  ·have:=zm (fun r hr=>h r (F1 _ hr)) p e;grind
theorem rR:∀(l:List Str)(p:Str),(p::l).Pairwise leS->risingS p l=true
 | [],p,_=>rfl
 |q::l,p,h=>by rw[List.pairwise_cons]at h;have ih:=rR l q h.2;have e:=h.1 q (F7 ..);unfold leS at e;unfold risingS;simp[e,ih]
theorem yk{l:List Str}(h:l.Pairwise leS):sortedS l=true:=by
 cases l with
 |nil=>rfl
 |cons p l=>exact rR l p h
section
variable{ss:List Str}{S:Sh}
theorem GS.shok(h:GS ss S):nz S:=⟨h.nd,fun p hp=>⟨(h.ok p hp).1,He (h.ok p hp).2⟩⟩
theorem GS.qnn(h:GS ss S):∀p∈S,0<=qF p.2:=fun p hp=>FK (h.ok p hp).1.pos (He (h.ok p hp).2)
theorem GS.le(h:GS ss S){p:Str×Int×Int}(hp:p∈S):p.2.1<=p.2.2:=by have:=zm h.qnn p hp;rw[h.tot,<-ER]at this;have n:=fun z=>Rat.not_lt.mpr this ((ES (f:=(1,1)) (g:=p.2) (by decide) (h.ok p hp).1.pos).mpr z);unfold ltF at n;simp at n;exact n
theorem GS.bd(h:GS ss S){p:Str×Int×Int}(hp:p∈S):Bd 200 p.2.1/\Bd 200 p.2.2:=by
 have a:=h.fin p hp;have b:=h.le hp;have c:=h.ok p hp;have p0:=c.1.pos;have e:(2:Nat)^200=1606938044258990275541962092341162602522202993782792835301376:=by decide
 unfold FIN at a;refine⟨Bd.of ?_,Bd.of ?_⟩<;>rw[e]<;>omega
theorem GS.names(h:GS ss S):∀x∈S.map (·.1),x∈ss:=fun x hx=>by obtain⟨p,hp,rfl⟩:=Ge.mp hx;exact h.nm p hp
theorem GS.len(h:GS ss S):S.length<=ss.length:=by have:=CQ h.nd h.names;rwa[FY]at this
end
theorem Paired.rev{α β:Type}{R:α->β->Prop}{xs:List α}{ys:List β}(hI:Paired R xs ys):Paired R xs.reverse ys.reverse:=by
 induction hI with
 |nil=>exact .nil
 |cons a b ih=>rw[List.reverse_cons,List.reverse_cons];exact Paired.app (ih) (.cons a .nil)
end L2
namespace LT
open PySem PySem.Spec PyProof.Rows L2
noncomputable abbrev AN:=List (Addr×Str)
noncomputable def nameAt(zs:AN)(a:Addr):Str:=((zs.find? fun z=>decide (z.1=a)).map (·.2)).getD (Str.ofString "")
noncomputable def bl(x y:Str):Bool:=strKind.blt x.cps.toList y.cps.toList
noncomputable def rank(zs:AN)(x:Str):Nat:=(zs.filter fun z=>bl z.2 x).length
def CD(zs:AN):Prop:=∀z∈zs,∀y∈zs,z.1=y.1->z.2=y.2
theorem m4{zs:AN}(h:CD zs){z:Addr×Str}(hz:z∈zs):nameAt zs z.1=z.2:=by
 unfold nameAt;cases e:zs.find? fun y=>decide (y.1=z.1)with
 |none=>exact absurd (Hn.mp e z hz) (by simp)
 |some y=>
  have e1:y.1=z.1:=by have:=List.find?_some e;simpa using this
  exact h y (List.mem_of_find?_eq_some e) z hz e1
theorem AZ(x:Str):bl x x=false:=strKind.irrefl _
theorem AX{x y z:Str}(a:bl x y=true)(b:bl y z=true):bl x z=true:=strKind.trans _ _ _ a b
theorem AY{x y:Str}(a:bl x y=false)(b:bl y x=false):x=y:=xn (strKind.total _ _ a b)
theorem filter_le{α:Type}{p q:α->Bool}:∀{l:List α},(∀x∈l,p x=true->q x=true)->(l.filter p).length<=(l.filter q).length
 | [],_=>F4 _
 |x::l,h=>by
  have ih:=filter_le (l:=l) fun y hy=>h y (F1 _ hy);have hx:=h x (F7 ..);rw[List.filter_cons,List.filter_cons];cases e:p x with
  |true=>rw[F8 rfl,F8 (hx e),Gs,Gs];omega
  |false=>
   rw[F6 (by simp)];split
   ·rw[Gs];omega
   ·exact ih
theorem filter_lt{α:Type}{p q:α->Bool}:∀{l:List α}{y:α},(∀x∈l,p x=true->q x=true)->y∈l->p y=false->q y=true->(l.filter p).length<(l.filter q).length
 |x::l,y,h,hy,h1,h2=>by
  have ht:∀z∈l,p z=true->q z=true:=fun z hz=>h z (F1 _ hz);rw[List.filter_cons,List.filter_cons];rcases Gg.mp hy with e|e
  ·subst e;have:=filter_le ht;rw[F6 (by simp[h1]),F8 h2,Gs];omega
  ·have ih:=filter_lt ht e h1 h2;have hx:=h x (F7 ..);cases e':p x with
   |true=>rw[F8 rfl,F8 (hx e'),Gs,Gs];omega
   |false=>
    rw[F6 (by simp)];split
    ·rw[Gs];omega
    ·exact ih
theorem sY{zs:AN}{z:Addr×Str}(hz:z∈zs){y:Str}(h:bl z.2 y=true):rank zs z.2<rank zs y:=
 filter_lt (fun _ _ e=>AX e h) hz (AZ _) h
theorem zF{zs:AN}{z y:Addr×Str}(hz:z∈zs)(hy:y∈zs):decide ((rank zs z.2:Int)<rank zs y.2)=bl z.2 y.2:=by
 cases e:bl z.2 y.2 with
 |true=>exact Gp (by have:=sY hz e;omega)
 |false=>
  refine Gw fun w=>?_;cases e2:bl y.2 z.2 with
  |true=>have:=sY hy e2;omega
  |false=>rw[AY e e2]at w;omega
noncomputable abbrev DL(zs:AN):KN where
 kn:=fun p=>match p.1 with| .ref a=>(rank zs (nameAt zs a):Nat)|_=>0
 isK:=fun p=>∃z∈zs,p=(.ref z.1,.ref z.1)
 kd:=tuples' true
def w8(h:Heap)(a:Addr)(x:Str):Prop:=∃o its n t,h.get? a=some o/\o.cls=.type "tuple"/\o.data=.seq its n/\its[0]?=some (.str x t)
section
variable{prog:Program}{w:World}{A:Around}{E:Value->Shared->Prop}{s:Shared}
theorem yx(b:Bool)(x y:Value):keyLt' (tuples' b) x y=(do
 let xs <-Builtin.List.listItems x;let ys <-Builtin.List.listItems y
 for ((p,q),i)in(xs.toList.zip ys.toList).zipIdx do
  if !(<-eqBool p q)then return <-oneLt' (b&&i==0) p q
 return xs.size<ys.size):=rfl
theorem vB{v:Value}{Q:Bool->Shared->Prop}(hv:(v==v)=true)(q:Q true s):wpAny (model prog w) A (eqBool v v) Q E s:=by unfold eqBool;refine G9 ?_;rw[hv];exact FZ (wpAny_rule (F3 q))
noncomputable def D8(b:Bool):(Value×Value)×Nat->Option Bool×Unit->Sem (ForInStep (Option Bool×Unit)):=fun x _=>match x with
 |((p,q),i)=>do
  if !(<-eqBool p q)then
   let r <-oneLt' (b&&i==0) p q
   pure (ForInStep.done (some r,()))
  else pure (ForInStep.yield (none,()))
theorem wL(b:Bool)(x y:Value):keyLt' (tuples' b) x y=(do
  let xs <-Builtin.List.listItems x;let ys <-Builtin.List.listItems y;let r <-forIn ((xs.toList.zip ys.toList).zipIdx) (none,()) (D8 b)
  match r.1 with
  |some r=>pure r
  |none=>pure (decide (xs.size<ys.size))):=by
 rw[yx]
 have e:(fun(x:(Value×Value)×Nat) (_:Option Bool×Unit)=>(match x with
  |((p,q),i)=>do
   let d <-eqBool p q
   if(!d)=true then do
     let r <-oneLt' (b&&i==0) p q
     pure (ForInStep.done (some r,()))
    else pure (ForInStep.yield (none,())):Sem (ForInStep (Option Bool×Unit))))=D8 b:=by
  funext x u;obtain⟨⟨p,q⟩,i⟩:=x;rfl
 rw[<-e];refine congrArg _ (funext fun xs=>congrArg _ (funext fun ys=>congrArg _ (funext fun z=>?_)));obtain⟨z1,z2⟩:=z;cases z1<;>rfl
theorem rO{R:Option Bool×Unit->Shared->Prop}{b:Bool}(q:R (none,()) s):∀(l:List Value)(k:Nat),(∀v∈l,(v==v)=true)->wpAny (model prog w) A (forIn ((l.zip l).zipIdx k) (none,()) (D8 b)) R E s
 | [],k,_=>F3 q
 |v::l,k,h=>by rw[List.zip_cons_cons,List.zipIdx_cons,List.forIn_cons];refine FZ (FZ (vB (h v (F7 ..)) (F3 ?_)));exact rO q l (k+1) fun u hu=>h u (F1 _ hu)
theorem DH{a b:Addr}{x y:Str}{Q:Bool->Shared->Prop}(ha:w8 s.heap a x)(hb:w8 s.heap b y)(self:∀v:Value,(v==v)=true)(same:x=y->a=b)(q:Q (bl x y) s):wpAny (model prog w) A (keyLt' (tuples' true) (.ref a) (.ref b)) Q E s:=by
 obtain⟨o,its,n,t,e1,e2,e3,e4⟩:=ha;obtain⟨o',its',n',t',f1,f2,f3,f4⟩:=hb;rw[wL];refine FZ (listItems_at e1 e3 (FZ (listItems_at f1 f3 (FZ ?_))));by_cases e:x=y
 ·obtain rfl:=same e;rw[e1]at f1;cases f1;rw[e3]at f3;cases f3;refine rO ?_ _ 0 fun v _=>self v;have:bl x y=false:=by rw[e];exact AZ _
  rw[this]at q;refine F3 ?_;rw[Gw (HF _)];exact q
 ·obtain⟨r,er⟩:∃r,its.toList=.str x t::r:=by
   rw[<-Hl]at e4;cases h:its.toList with
   |nil=>rw[h]at e4;cases e4
   |cons v r=>rw[h]at e4;cases e4;exact⟨r,rfl⟩
  obtain⟨r',er'⟩:∃r',its'.toList=.str y t'::r':=by
   rw[<-Hl]at f4;cases h:its'.toList with
   |nil=>rw[h]at f4;cases f4
   |cons v r=>rw[h]at f4;cases f4;exact⟨r,rfl⟩
  rw[er,er',List.zip_cons_cons,List.zipIdx_cons,List.forIn_cons];refine FZ (FZ (wpAny_eqBool_str ?_));rw[Gw e];exact FZ (oneLt_str (F3 (F3 (F3 q))))
theorem Al{zs:AN}(hz:∀z∈zs,w8 s.heap z.1 z.2)(nd:(zs.map (·.2)).Nodup)(one:CD zs)(self:∀v:Value,(v==v)=true): @vS prog w A E s (DL zs):=by
 letI:=DL zs;refine⟨fun {st x y Q} hk hx hy h=>?_⟩;obtain⟨z,mz,rfl⟩:=hx;obtain⟨y,my,rfl⟩:=hy;rw[lt'_eq];refine GQ (wpS_get ?_);rw[hk];refine GQ (wpS_lift (wpAny_attempt (DH (hz z mz) (hz y my) self (fun e=>?_) ⟨rfl,?_⟩)))
 ·have key:∀(l:AN),(l.map (·.2)).Nodup->z∈l->y∈l->z.2=y.2->z=y:=by
   intro l
   induction l with
   |nil=>intro _ h;cases h
   |cons r l ih=>
    intro nd h1 h2 e;rw[F9,Hh]at nd;rcases Gg.mp h1 with a|a
    ·rcases Gg.mp h2 with b|b
     ·rw[a,b]
     ·exact absurd (List.mem_map_of_mem (f:=(·.2)) b) (by rw[<-e,a];exact nd.1)
    ·rcases Gg.mp h2 with b|b
     ·exact absurd (List.mem_map_of_mem (f:=(·.2)) a) (by rw[e,b];exact nd.1)
     ·exact ih nd.2 a b e
  rw[key zs nd mz my e]
 ·refine Hi ?_;have e1:KN.kn (.ref z.1,.ref z.1)=(rank zs z.2:Int):=by show((rank zs (nameAt zs z.1):Nat):Int)=_;rw[m4 one mz]
  have e2:KN.kn (.ref y.1,.ref y.1)=(rank zs y.2:Int):=by show((rank zs (nameAt zs y.1):Nat):Int)=_;rw[m4 one my]
  rw[e1,e2,zF mz my]at h;exact h
end
theorem uU{α β:Type}{f:α->β}:∀{zs:List α}{l:List β},l.Perm (zs.map f)->∃ys:List α,ys.Perm zs/\l=ys.map f:=by
 intro zs l h;generalize hm:zs.map f=m at h
 induction h generalizing zs with
 |nil=>rw[List.map_eq_nil_iff]at hm;subst hm;exact⟨[],.nil,rfl⟩
 |cons x _ ih=>obtain⟨z,zs',rfl,rfl,rfl⟩:=List.map_eq_cons_iff.mp hm;obtain⟨ys,h1,h2⟩:=ih rfl;exact⟨z::ys,h1.cons z,by rw[F9,h2]⟩
 |swap x y l=>obtain⟨z,zs',rfl,rfl,h2⟩:=List.map_eq_cons_iff.mp hm;obtain⟨z2,zs2,rfl,rfl,rfl⟩:=List.map_eq_cons_iff.mp h2;exact⟨z2::z::zs2,.swap z z2 zs2,rfl⟩
 |trans _ _ ih1 ih2=>obtain⟨ys,h1,rfl⟩:=ih2 hm;obtain⟨ws,h3,rfl⟩:=ih1 rfl;exact⟨ws,h3.trans h1,rfl⟩
section
variable{prog:Program}{w:World}{A:Around}{E:Value->Shared->Prop}{s:Shared}
theorem sM{M:Model}{α:Type}{f:Value->Sem α}{g:Value->α}:∀{vs:List Value}{Q:List α->Shared->Prop},(∀v∈vs,∀{R:α->Shared->Prop},R (g v) s->wpAny M A (f v) R E s)->Q (vs.map g) s->wpAny M A (vs.mapM f) Q E s
 | [],Q,_,q=>by rw[List.mapM_nil];exact F3 q
 |v::vs,Q,h,q=>by rw[List.mapM_cons];refine FZ (h v (F7 ..) (FZ (sM (g:=g) (fun u hu=>h u (F1 _ hu)) (F3 q))))
noncomputable def vals(zs:AN):List Value:=zs.map fun z=>.ref z.1
theorem firstT (v : Value) : firstOfTuple' v = (do if (← typeOf v) != .type "tuple" then return none
                                                   return (← Builtin.List.listItems v)[0]?) := rfl
theorem Aq{zs:AN}(hz:∀z∈zs,w8 s.heap z.1 z.2)(h2:zs≠[]){Q:SortKind->Shared->Prop}(q:Q (tuples' true) s):wpAny (model prog w) A (keyKind' (vals zs).toArray) Q E s:=by
 have key:∀v∈vals zs,∃x t,∀{R:Option Value->Shared->Prop},R (some (.str x t)) s->wpAny (model prog w) A (firstOfTuple' v) R E s:=fun v hv=>by obtain⟨z,mz,rfl⟩:=Ge.mp hv;obtain⟨o,its,n,t,e1,e2,e3,e4⟩:=hz z mz;refine⟨z.2,t,fun {R} r=>?_⟩;rw[firstT];refine FZ (wpAny_typeOf (T:="tuple") ⟨o,e1,e2⟩ ?_);rw[F6 (by simp)];refine FZ (listItems_at e1 e3 (F3 ?_));rw[e4];exact r
 have gex:∀v:Value,∃u:Value,v∈vals zs->(∃x t,u=.str x t)/\∀{R:Option Value->Shared->Prop},R (some u) s->wpAny (model prog w) A (firstOfTuple' v) R E s:=fun v=>by
  by_cases hv:v∈vals zs
  ·obtain⟨x,t,h⟩:=key v hv;exact⟨.str x t,fun _=>⟨⟨x,t,rfl⟩,h⟩⟩
  ·exact⟨.none,fun z=>absurd z hv⟩
 let g:Value->Value:=fun v=>(gex v).choose;have hg:∀v∈vals zs,(∃x t,g v=.str x t)/\∀{R:Option Value->Shared->Prop},R (some (g v)) s->wpAny (model prog w) A (firstOfTuple' v) R E s:=fun v hv=>(gex v).choose_spec hv;rw[keyKind'_eq,List.mapM_toArray,<-bind_pure_comp];refine FZ (FZ (sM (g:=fun v=>some (g v)) (fun v hv {R} r=>(hg v hv).2 r) (F3 ?_)));have c1:((vals zs).map fun v=>some (g v)).toArray.all (·.isSome)=true:=by simp
 rw[F8 c1];have e1:((vals zs).map fun v=>some (g v)).toArray.filterMap id=((vals zs).map g).toArray:=by simp[List.filterMap_toArray,List.filterMap_map]
 refine FZ (wpAny_rule ?_);rw[e1,oneTypeOnly'_eq,List.mapM_toArray,<-bind_pure_comp];refine FZ (FZ (FZ (sM (f:=typeOf) (g:=fun _=>Value.type "str") (fun v hv {R} r=>?_) (F3 ?_))))
 ·obtain⟨u,hu,rfl⟩:=Ge.mp hv;obtain⟨x,t,e⟩:=(hg u hu).1;rw[e];exact wpAny_typeOf (typeIs_str s x t) r
 ·have hl:(((vals zs).map g).map fun _=>Value.type "str").toArray[0]?=some (Value.type "str"):=by
   cases zs with
   |nil=>exact absurd rfl h2
   |cons z zs=>simp[vals]
  rw[hl];have ha:(((vals zs).map g).map fun _=>Value.type "str").toArray.all (·==Value.type "str")=true:=by simp only[List.all_toArray,List.all_map,List.all_eq_true];intro _ _;rfl
  refine F3 ?_;rw[ha];exact F3 q
end
end LT
namespace L2
open PySem PySem.Spec PyProof.Rows LM
noncomputable def nmO(p a:Int)(k:Nat):Str:=if p=0 then sX (Str.ofString "q") ((k:Int)+1).toNat else Txt.slice (Str.ofString "landa") none (some a)++⟨#[112+k]⟩++Txt.slice (Str.ofString "landa") (some (a+1)) none
noncomputable abbrev c5(w:Int)(k:Nat):Str:=nmO (w % 2) (w / 2 % 5) k
theorem xE:∀p∈[(0:Int),1],∀a∈[(0:Int),1,2,3,4],∀k∈List.range 6,(nmO p a k).length=(if p=0 then k+1 else 5)/\(nmO p a k).cps.all (fun c=>97<=c&&c<=122)=true/\∀j∈List.range 6,nmO p a k=nmO p a j->k=j:=by decide+kernel
theorem tR{w:Int}{k:Nat}(hk:k<6):FV (c5 w k):=by
 have p:w % 2∈[(0:Int),1]:=by rcases (show w % 2=0\/w % 2=1 by omega)with e|e<;>rw[e]<;>decide
 have a:w / 2 % 5∈[(0:Int),1,2,3,4]:=by rcases (show w / 2 % 5=0\/w / 2 % 5=1\/w / 2 % 5=2\/w / 2 % 5=3\/w / 2 % 5=4 by omega)with e|e|e|e|e<;>rw[e]<;>decide
 obtain⟨h1,h2,_⟩:=xE _ p _ a k (GN.mpr hk);refine⟨fun c hc=>?_,?_,?_⟩
 ·have:=Array.all_eq_true'.mp h2 c (by simpa using hc);simpa using this
 ·show 1<=(nmO (w % 2) (w / 2 % 5) k).length;rw[h1];split<;>omega
 ·show(nmO (w % 2) (w / 2 % 5) k).length<=8;rw[h1];split<;>omega
theorem Af{w:Int}{k j:Nat}(hk:k<6)(hj:j<6)(e:c5 w k=c5 w j):k=j:=by
 have p:w % 2∈[(0:Int),1]:=by rcases (show w % 2=0\/w % 2=1 by omega)with e|e<;>rw[e]<;>decide
 have a:w / 2 % 5∈[(0:Int),1,2,3,4]:=by rcases (show w / 2 % 5=0\/w / 2 % 5=1\/w / 2 % 5=2\/w / 2 % 5=3\/w / 2 % 5=4 by omega)with e|e|e|e|e<;>rw[e]<;>decide
 exact(xE _ p _ a k (GN.mpr hk)).2.2 j (GN.mpr hj) e
def HdE(K:Frag)(H:Hp)(v:V)(g:Nat):Prop:=∃r rest,v=.ref r/\SqT K H r (.int (g:Nat)::rest)
noncomputable def cS:List V->List Nat->Nat->V
 |x::xs,g::gs,c=>if g.testBit c=true then x else cS xs gs c
 |_,_,_=>.non
theorem iZ{xs:List V}{gs:List Nat}{c i:Nat}{x:V}{g:Nat}(e1:xs[i]?=some x)(e2:gs[i]?=some g):cS (xs.drop i) (gs.drop i) c=if g.testBit c=true then x else cS (xs.drop (i+1)) (gs.drop (i+1)) c:=by rw[jX e1,jX e2];rfl
end L2
namespace L2
open PySem PySem.W
theorem ai{X:Cx}{body:List Stmt}{Z:TS->Prop}(n:Nat){u:TS}(r:PSs X (body.drop n) u)(k:let R:=u;PSs X (body.drop n) R->∃t,PSs X body t/\Z t):∃t,PSs X body t/\Z t:=k r
theorem aQ{X:Cx}{body:List Stmt}{Z:TS->Prop}(k:let Y:=X;∃t,PSs Y body t/\Z t):∃t,PSs X body t/\Z t:=k
theorem E2{P:List Value->Prop}(h:∀a0,P [a0])(us:List Value)(hl:us.length=1):P us:=by
 cases us with
 |nil=>cases hl
 |cons a0 us=>exact(show P (a0::us)from by cases us with|nil=>exact h a0|cons b us=>cases hl)
theorem wJ{P:List Value->Prop}(h:∀a0 a1,P [a0,a1])(us:List Value)(hl:us.length=2):P us:=by
 cases us with
 |nil=>cases hl
 |cons a0 us=>exact E2 (P:=fun us=>P (a0::us)) (h a0) us (GG hl)
theorem EZ{P:List Value->Prop}(h:∀a0 a1 a2,P [a0,a1,a2])(us:List Value)(hl:us.length=3):P us:=by
 cases us with
 |nil=>cases hl
 |cons a0 us=>exact wJ (P:=fun us=>P (a0::us)) (h a0) us (GG hl)
theorem DJ{P:List Value->Prop}(h:∀a0 a1 a2 a3,P [a0,a1,a2,a3])(us:List Value)(hl:us.length=4):P us:=by
 cases us with
 |nil=>cases hl
 |cons a0 us=>exact EZ (P:=fun us=>P (a0::us)) (h a0) us (GG hl)
theorem An{P:List Value->Prop}(h:∀a0 a1 a2 a3 a4,P [a0,a1,a2,a3,a4])(us:List Value)(hl:us.length=5):P us:=by
 cases us with
 |nil=>cases hl
 |cons a0 us=>exact DJ (P:=fun us=>P (a0::us)) (h a0) us (GG hl)
theorem EY{P:List Value->Prop}(h:∀a0 a1 a2 a3 a4 a5,P [a0,a1,a2,a3,a4,a5])(us:List Value)(hl:us.length=6):P us:=by
 cases us with
 |nil=>cases hl
 |cons a0 us=>exact An (P:=fun us=>P (a0::us)) (h a0) us (GG hl)
theorem FO{P:List Value->Prop}(h:∀a0 a1 a2 a3 a4 a5 a6,P [a0,a1,a2,a3,a4,a5,a6])(us:List Value)(hl:us.length=7):P us:=by
 cases us with
 |nil=>cases hl
 |cons a0 us=>exact EY (P:=fun us=>P (a0::us)) (h a0) us (GG hl)
end L2
namespace L2
open PySem PySem.Spec PyProof.Rows
section
variable{X:Cx}{tg:Expr}
def Fy(P:Program)(w:World)(K:Frag)(neg:Bool)(ty td:TE):TE:=fun σ H Q=>ty σ H fun y H1=>td σ H1 fun x H2=>∃d o T b c,x=.ref d/\x5 P w K H2 d o T/\y=.ref b/\eO K H2 b c/\Q (.bl (if neg then !(atT T c).isSome else(atT T c).isSome)) H2
theorem ym{i o:Expr}{td ty:TE}(hu:X.A.units+64<cLine)(hi:PE X i ty)(ho:PE X o td):PC X .NotIn i o (Fy X.prog X.w X.K true ty td):=by
 intro pins s σ H Q I h;refine thn (hi pins s σ H _ I h) fun iv s1 hPz=>L2.ep3 hPz fun y H1 I1 ry q1=>thn (ho pins s1 σ H1 _ I1 q1) fun u s2 hPz=>?_;obtain⟨x,H2,I2,rx,d,ob,T,b,c,ex,hc,ey,hb,q2⟩:=hPz;subst ex ey;cases rx;cases ry;obtain⟨h1,h2,h3,h4⟩:=hc;obtain⟨vs,rv,DD⟩:=h2.dict I2 h1 h4;refine wpAny_notIn_heap (show X.A.in1.units+3<cLine by simp only[Around.in1_units];omega) (hb.is I2) h3 DD ?_;have e:(atKey vs c).isSome=(atT T c).isSome:=by rcases C0 (c:=c) rv with⟨z1,z2⟩|⟨v',p,z1,z2,_⟩<;>rw[z1,z2]<;>rfl
 rw[e];exact⟨.bl _,H2,I2.tok _,rfl,q2⟩
end
noncomputable abbrev wSh(L:Ws):Sh:=L.map fun p=>(p.1,frT p.2 (ir L),frB p.2 (ir L))
theorem xk{t:Int}(ht:0<t):∀L:Ws,qM (L.map fun p=>(p.1,frT p.2 t,frB p.2 t))=(((L.map (·.2)).sum:Int):Rat) / (t:Rat)
 | []=>by rw[HH,uB];show(0:Rat)=((0:Int):Rat) / _;grind
 |p::L=>by rw[F9,dW,xk ht L,F9,List.sum_cons,Rat.intCast_add];have e:qF (frT p.2 t,frB p.2 t)=(p.2:Rat) / (t:Rat):=Dr ht;show qF (frT p.2 t,frB p.2 t)+_=_;rw[e];grind
theorem E6{ss:List Str}{S:Sh}{L:Ws}(nd:(L.map (·.1)).Nodup)(pos:∀p∈L,0<p.2)(hL:0<ir L)(hf:ir L<=FIN)(pm:S.Perm (wSh L))(so:(S.map (·.1)).Pairwise leS)(nm:∀p∈L,p.1∈ss):GS ss S:=by
 have e1:(wSh L).map (·.1)=L.map (·.1):=by rw[List.map_map];rfl
 have mem:∀p∈S,∃q∈L,p=(q.1,frT q.2 (ir L),frB q.2 (ir L)):=fun p hp=>by obtain⟨q,hq,e⟩:=Ge.mp (pm.mem_iff.mp hp);exact⟨q,hq,e.symm⟩
 refine⟨?_,yk so,fun p hp=>?_,fun p hp=>?_,?_,fun p hp=>?_⟩
 ·have:=pm.map (·.1);rw[e1]at this;exact this.nodup_iff.mpr nd
 ·obtain⟨q,hq,rfl⟩:=mem p hp;exact⟨oG _ hL,oF (pos q hq) hL⟩
 ·obtain⟨q,hq,rfl⟩:=mem p hp;show ¬FIN<frB q.2 (ir L);have h1:frB q.2 (ir L)<=ir L:=by
   have g:=iG (t:=q.2) hL;have e:frB q.2 (ir L)*((Int.gcd q.2 (ir L):Nat):Int)=ir L:=AF q.2 (ir L);have p0:=oH (t:=q.2) hL;have:=Int.mul_le_mul_of_nonneg_left (a:=1) (b:=((Int.gcd q.2 (ir L):Nat):Int)) (c:=frB q.2 (ir L)) (by omega) (by omega);omega
  omega
 ·rw[yb pm,xk hL];show((ir L:Int):Rat) / ((ir L:Int):Rat)=1;have:=oO hL;grind
 ·obtain⟨q,hq,rfl⟩:=mem p hp;exact nm q hq
theorem Cp{x:V}{r:List V}:wV (x::r) (some 1) none=r:=by
 unfold wV;rw[HT.zA,show HT.sIx (x::r).length 0 (some 1)=min 1 (x::r).length from HT.Bu _ _ 1];have:min 1 (x::r).length=1:=by rw[Gs];omega
 rw[this];simp
theorem oW:∀{ws:List Int},(∀x∈ws,1<=x/\x<=9)->0<=ws.sum/\ws.sum<=9*ws.length
 | [],_=>by simp
 |x::ws,h=>by have a:=h x (F7 ..);have b:=oW fun y hy=>h y (F1 _ hy);rw[List.sum_cons,Gs];omega
theorem uD:∀{ws:List Int},(∀x∈ws,0<x)->ws≠[]->0<ws.sum
 | [x],h,_=>by have:=h x (by simp);simpa using this
 |x::y::ws,h,_=>by have a:=h x (F7 ..);have b:=uD (ws:=y::ws) (fun z hz=>h z (F1 _ hz)) (by simp);rw[List.sum_cons];omega
theorem v8{K:Frag}{H:Hp}{vs:List V}{S0:Sh}(pr:Paired (ShE K H) vs S0):∃zs:LT.AN,vs=zs.map (fun z=>V.ref z.1)/\zs.map (·.2)=S0.map (·.1)/\(∀z∈zs,∃r,SqT K H z.1 (.str z.2::r))/\
  ∀ys:LT.AN,ys.Perm zs->∃S:Sh,S.Perm S0/\Paired (ShE K H) (ys.map fun z=>V.ref z.1) S/\S.map (·.1)=ys.map (·.2):=by
 obtain⟨zs,e,h⟩:∃zs:LT.AN,vs=zs.map (fun z=>V.ref z.1)/\Paired (fun(z:Addr×Str) (p:Str×Int×Int)=>z.2=p.1/\ShE K H (.ref z.1) p) zs S0:=by
  induction pr with
  |nil=>exact⟨[],rfl,.nil⟩
  | @cons v p _ _ a _ ih=>obtain⟨zs,e,h⟩:=ih;obtain⟨r,q,rfl,h1,h2⟩:=id a;exact⟨(r,p.1)::zs,by rw[F9,e],.cons ⟨rfl,a⟩ h⟩
 have nm:∀{zs:LT.AN}{S:Sh},Paired (fun(z:Addr×Str) (p:Str×Int×Int)=>z.2=p.1/\ShE K H (.ref z.1) p) zs S->zs.map (·.2)=S.map (·.1):=by
  intro zs S h
  induction h with
  |nil=>rfl
  |cons a _ ih=>rw[F9,F9,a.1,ih]
 have sh:∀{zs:LT.AN}{S:Sh},Paired (fun(z:Addr×Str) (p:Str×Int×Int)=>z.2=p.1/\ShE K H (.ref z.1) p) zs S->Paired (ShE K H) (zs.map fun z=>V.ref z.1) S:=by
  intro zs S h
  induction h with
  |nil=>exact .nil
  |cons a _ ih=>exact .cons a.2 ih
 refine⟨zs,e,nm h,fun z hz=>?_,fun ys py=>?_⟩
 ·obtain⟨p,_,e1,r,q,e2,h1,_⟩:=kJ h hz;cases e2;rw[e1];exact⟨_,h1⟩
 ·obtain⟨S,h1,h2⟩:=tK py.symm h;exact⟨S,h1,sh h2,(nm h2).symm⟩
noncomputable def wsN(w:Int)(f:Nat)(ws:List Int)(n:Nat):Ws:=(List.range n).map fun k=>(c5 w ((f+k) % 6),ws.getD k 0)
theorem zf{w:Int}{f:Nat}{ws:List Int}{n:Nat}(hn:n<=6):((wsN w f ws n).map (·.1)).Nodup:=by unfold wsN;rw[List.map_map];show((List.range n).map fun k=>c5 w ((f+k) % 6)).Nodup;rw[List.nodup_iff_pairwise_ne,List.pairwise_map];refine List.Pairwise.imp_of_mem ?_ (List.nodup_iff_pairwise_ne.mp (List.nodup_range));intro a b ha hb ne e;have ha:=GN.mp ha;have hb:=GN.mp hb;have:=Af (Nat.mod_lt _ (by decide)) (Nat.mod_lt _ (by decide)) e;omega
theorem xh{w:Int}{f:Nat}{ws:List Int}:ir (wsN w f ws ws.length)=ws.sum:=by
 unfold ir wsN;rw[List.map_map];congr 1;apply List.ext_getElem?;intro k;rw[Gn];by_cases h:k<ws.length
 ·rw[List.getElem?_range h];simp[h]
 ·rw[List.getElem?_eq_none (by simpa using h),List.getElem?_eq_none (by omega)];rfl
theorem xi{w:Int}{f:Nat}{ws:List Int}(h:∀x∈ws,0<x):∀p∈wsN w f ws ws.length,0<p.2/\p.1∈(List.range 6).map (c5 w):=by intro p hp;obtain⟨k,hk,rfl⟩:=Ge.mp hp;have hk:=GN.mp hk;refine⟨h _ ?_,Ge.mpr ⟨(f+k) % 6,GN.mpr (Nat.mod_lt _ (by decide)),rfl⟩⟩;rw[List.getD_eq_getElem?_getD,Gh hk];exact Hv hk
end L2
namespace L2
open PySem PySem.Spec PyProof.Rows
theorem k7{g:Nat->Option Col}{m:Nat}:∀{c:Nat},m<=c->(∀j,m<=j->j<c->g j=none)->bx g c=bx g m/\∀x,msk g c x=msk g m x
 | 0,hm,_=>by
  obtain rfl:m=0:=by omega
  exact⟨rfl,fun _=>rfl⟩
 |c+1,hm,h=>by
  by_cases e:m=c+1
  ·subst e;exact⟨rfl,fun _=>rfl⟩
  ·have ih:=k7 (c:=c) (by omega) fun j h1 h2=>h j h1 (by omega);have hn:=h c (by omega) (by omega);refine⟨by rw[i5 hn];exact ih.1,fun x=>?_⟩;rw[<-ih.2 x];show(if g c=some x then _ else _)=_;rw[F6 (by rw[hn];exact fun z=>nomatch z)]
def PlI(T:CT)(D:List (Col×Nat)):Prop:=Paired (fun(t:Col×Addr×V) (p:Col×Nat)=>t.1=p.1/\t.2.2=.int (p.2:Nat)) T D
theorem PlI.at{c:Col}{T:CT}{D:List (Col×Nat)}(hI:PlI T D):atT T c=(D.find? fun p=>decide (p.1=c)).map fun p=>V.int (p.2:Nat):=by
 induction hI with
 |nil=>exact rfl
 | @cons t p _ _ a b ih=>
  have ih:=ih;by_cases h:t.1=c
  ·have h':p.1=c:=a.1.symm.trans h;simp[atT,GJ,h,h',a.2]
  ·have h':¬p.1=c:=fun z=>h (a.1.trans z);simpa[atT,GJ,h,h']using ih
theorem vz{c:Col}:∀{D:List Col}{n j:Nat},D.Nodup->D[j]?=some c->(D.zipIdx n).find? (fun p=>decide (p.1=c))=some (c,n+j)
 | [],_,_,_,e=>by cases e
 |x::D,n,0,_,e=>by cases e;simp[List.zipIdx_cons,GJ]
 |x::D,n,j+1,nd,e=>by rw[Hh]at nd;have ne:¬x=c:=fun z=>nd.1 (by rw[z];exact Gb e);rw[List.zipIdx_cons,GJ];simp only[ne,decide_false];rw[vz (n:=n+1) (j:=j) nd.2 (by simpa using e)];congr 2;omega
theorem yL{c:Col}{D:List Col}(h:¬c∈D)(n:Nat):(D.zipIdx n).find? (fun p=>decide (p.1=c))=none:=by rw[Hn];intro p hp z;have z':=Gu z;exact h (by rw[<-z'];exact List.fst_mem_of_mem_zipIdx hp)
structure MsG(P:Program)(w:World)(K:Frag)(H0 H:Hp)(l1 dp:Addr)(D:List Col)(f:Col->Nat)(as:List Addr)(o:Obj)(T:CT):Prop where
 sm:aw H0 H
 n1:H0 l1=none
 n2:H0 dp=none
 na:∀a∈as,H0 a=none
 hl:H l1=some (.lst (as.map V.ref))
 nl:¬l1∈as
 nd:as.Nodup
 pr:Paired (fun(a:Addr) (c:Col)=>∃b,H a=some (.lst [.int (f c:Nat),.ref b])/\eO K H b c) as D
 co:x5 P w K H dp o T
 pl:PlI T D.zipIdx
variable{P:Program}{w:World}{K:Frag}{H0 H:Hp}{l1 dp:Addr}{D:List Col}{f:Col->Nat}{as:List Addr}{o:Obj}{T:CT}
theorem Paired.memR{α β:Type}{R S:α->β->Prop}{as:List α}{bs:List β}(h:Paired R as bs)(k:∀a b,a∈as->b∈bs->R a b->S a b):Paired S as bs:=by
 induction h with
 |nil=>exact .nil
 |cons a _ ih=>exact .cons (k _ _ (F7 ..) (F7 ..) a) (ih fun x y hx hy=>k x y (F1 _ hx) (F1 _ hy))
theorem MsG.len(h:MsG P w K H0 H l1 dp D f as o T):as.length=D.length:=Gi h.pr
theorem MsG.tlen(h:MsG P w K H0 H l1 dp D f as o T):T.length=D.length:=by have:=Gi h.pl;rw[this,List.length_zipIdx]
theorem MsG.place(h:MsG P w K H0 H l1 dp D f as o T)(nd:D.Nodup){c:Col}{j:Nat}(e:D[j]?=some c):atT T c=some (.int (j:Nat)):=by rw[h.pl.at,vz nd e,HE];rfl
theorem MsG.noplace(h:MsG P w K H0 H l1 dp D f as o T){c:Col}(e:¬c∈D):atT T c=none:=by rw[h.pl.at,yL e];rfl
theorem MsG.congr{f':Col->Nat}(h:MsG P w K H0 H l1 dp D f as o T)(e:∀c,f c=f' c):MsG P w K H0 H l1 dp D f' as o T:=by obtain rfl:f=f':=funext e;exact h
theorem MsG.new(h:MsG P w K H0 H l1 dp D f as o T){c:Col}{b a5:Addr}{o':Obj}(hc:¬c∈D)(f0:f c=0)(hb:eO K H b c)(ho:xf P w o' (qX T c b (.int (as.length:Nat))))(h5:(upd H dp (jM dp o')) a5=none):
  MsG P w K H0 (upd (upd (upd H dp (jM dp o')) a5 (.lst [.int 0,.ref b])) l1 (.lst (as.map V.ref++[.ref a5]))) l1 dp (D++[c]) f (as++[a5]) o' (qX T c b (.int (as.length:Nat))):=by
 have c1:=h.co.1;have d1:l1≠dp:=hW h.hl c1 (fun z=>nomatch z);have t1:TK H (upd H dp (jM dp o')):=TK.obj c1;have a5d:a5≠dp:=fun z=>by rw[z,af]at h5;cases h5
 have h5':H a5=none:=by rw[<-h5,az a5d]
 have a5l:a5≠l1:=fun z=>by rw[z,h.hl]at h5';cases h5'
 have a5a:∀a∈as,a≠a5:=fun a ha z=>by obtain⟨c',_,b',e,_⟩:=kJ h.pr ha;rw[z,h5']at e;cases e
 have ad:∀a∈as,a≠dp:=fun a ha=>by obtain⟨c',_,b',e,_⟩:=kJ h.pr ha;exact hW e c1 (fun z=>nomatch z)
 have t2:TK (upd H dp (jM dp o')) (upd (upd H dp (jM dp o')) a5 (.lst [.int 0,.ref b])):=(aw.upd h5).tk;have hl2:(upd (upd H dp (jM dp o')) a5 (.lst [.int 0,.ref b])) l1=some (.lst (as.map V.ref)):=by rw[az a5l.symm,az d1];exact h.hl
 have t3:=TK.lst (o:=.lst (as.map V.ref++[.ref a5])) hl2;have pe:qX T c b (.int (as.length:Nat))=T++[(c,b,.int (as.length:Nat))]:=by
  unfold qX;rw[F6];intro z;have e0:=h.noplace hc;unfold atT at e0;cases e:T.find? fun t=>decide (t.1=c)with
  |none=>rw[Hn]at e;obtain⟨t,ht,zt⟩:=Hr.mp z;exact e t ht zt
  |some t=>rw[e]at e0;cases e0
 have n5:H0 a5=none:=h.sm.free h5';refine⟨fun a u e=>?_,h.n1,h.n2,fun a ha=>?_,?_,fun z=>?_,?_,?_,⟨?_,ho,h.co.2.2.1,?_⟩,?_⟩
 ·rw[az (fun z=>by rw[z,h.n1]at e;cases e),az (fun z=>by rw[z,n5]at e;cases e),az (fun z=>by rw[z,h.n2]at e;cases e)];exact h.sm a u e
 ·rcases Gj.mp ha with z|z
  ·exact h.na a z
  ·rw[F2.mp z];exact n5
 ·rw[af,Gk];rfl
 ·rcases Gj.mp z with y|y
  ·exact h.nl y
  ·exact a5l (F2.mp y).symm
 ·rw[List.nodup_append];exact⟨h.nd,by simp,fun a ha b hb z=>a5a a ha (by rw[z,F2.mp hb])⟩
 ·refine Paired.app (Paired.memR h.pr fun a c' ha _ ⟨b',e,z⟩=>⟨b',?_,((z.tk t1).tk t2).tk t3⟩) (.cons ⟨b,?_,((hb.tk t1).tk t2).tk t3⟩ .nil)
  ·rw[az (fun z=>h.nl (by rw[<-z];exact ha)),az (a5a a ha),az (ad a ha)];exact e
  ·rw[az a5l,af,f0];rfl
 ·rw[az d1.symm,az a5d.symm,af]
 ·rw[pe];intro t ht;rcases Gj.mp ht with z|z
  ·exact(((h.co.2.2.2 t z).tk t1).tk t2).tk t3
  ·rw[F2.mp z];exact((hb.tk t1).tk t2).tk t3
 ·rw[pe,List.zipIdx_append];refine Paired.app h.pl (.cons ⟨rfl,?_⟩ .nil);show V.int _=V.int _;rw[h.len];simp
theorem MsG.bump(h:MsG P w K H0 H l1 dp D f as o T)(ndD:D.Nodup){c:Col}{j x:Nat}{a b:Addr}(e:D[j]?=some c)(ea:as[j]?=some a)(ha:H a=some (.lst [.int (f c:Nat),.ref b]))(hb:eO K H b c):
  MsG P w K H0 (upd H a (.lst [.int (x:Nat),.ref b])) l1 dp D (fun y=>if y=c then x else f y) as o T:=by
 have ma:a∈as:=Gb ea;have t1:=TK.lst (o:=.lst [.int (x:Nat),.ref b]) ha;have al:l1≠a:=fun z=>h.nl (by rw[z];exact ma);have ad:dp≠a:=hW h.co.1 ha (fun z=>nomatch z);refine⟨fun a' u e'=>?_,h.n1,h.n2,h.na,?_,h.nl,h.nd,?_,⟨?_,h.co.2.1,h.co.2.2.1,fun t ht=>(h.co.2.2.2 t ht).tk t1⟩,h.pl⟩
 ·rw[az (fun z=>by rw[z,h.na a ma]at e';cases e')];exact h.sm a' u e'
 ·rw[az al];exact h.hl
 ·have key:∀{as:List Addr}{D:List Col}{j:Nat},Paired (fun(a:Addr) (c:Col)=>∃b,H a=some (.lst [.int (f c:Nat),.ref b])/\eO K H b c) as D->as.Nodup->D.Nodup->D[j]?=some c->as[j]?=some a->
    Paired (fun(a':Addr) (c':Col)=>∃b',(upd H a (.lst [.int (x:Nat),.ref b])) a'=some (.lst [.int ((if c'=c then x else f c':Nat):Nat),.ref b'])/\eO K (upd H a (.lst [.int (x:Nat),.ref b])) b' c') as D:=by
   intro as D j p
   induction p generalizing j with
   |nil=>intro _ _ e _;cases e
   | @cons a0 c0 as D r p ih=>
    intro n1 n2 e1 e2;rw[Hh]at n1 n2;cases j with
    |zero=>cases e1;cases e2;refine .cons ⟨b,by rw[af,F8 rfl],hb.tk t1⟩ (Paired.memR p fun a' c' ha' hc' ⟨b',e3,z⟩=>⟨b',?_,z.tk t1⟩);rw[az (fun z=>n1.1 (by rw[<-z];exact ha')),F6 (fun z=>n2.1 (by rw[<-z];exact hc'))];exact e3
    |succ j=>have e1':D[j]?=some c:=(by simpa using e1);have e2':as[j]?=some a:=(by simpa using e2);refine .cons ?_ (ih n1.2 n2.2 e1' e2');obtain⟨b',e3,z⟩:=r;have nc:¬c0=c:=fun z=>n2.1 (by rw[z];exact Gb e1');have na:a0≠a:=fun z=>n1.1 (by rw[z];exact Gb e2');exact⟨b',by rw[az na,F6 nc];exact e3,z.tk t1⟩
  exact key h.pr h.nd ndD e ea
 ·rw[az ad];exact h.co.1
theorem MsG.same{H':Hp}(h:MsG P w K H0 H l1 dp D f as o T)(s:aw H H'):MsG P w K H0 H' l1 dp D f as o T:=
 ⟨h.sm.trans s,h.n1,h.n2,h.na,s _ _ h.hl,h.nl,h.nd,Paired.imp (fun _ _ ⟨b,e,z⟩=>⟨b,s _ _ e,z.tk s.tk⟩) h.pr,⟨s _ _ h.co.1,h.co.2.1,h.co.2.2.1,fun t ht=>(h.co.2.2.2 t ht).tk s.tk⟩,h.pl⟩
theorem xq{cs:List Nat}(h:cs.Pairwise (·<·)){i c:Nat}(e:cs[i]?=some c)(t:Nat):t∈cs.take i<->t∈cs/\t<c:=by
 obtain⟨hi,e'⟩:=Gr.mp e;rw[HI]at h;constructor
 ·intro ht;obtain⟨k,hk,rfl⟩:=List.getElem_of_mem ht;rw[G0]at hk;rw[List.getElem_take];exact⟨Hv _,by rw[<-e'];exact h k i (by omega) hi (by omega)⟩
 ·rintro⟨ht,lt⟩;obtain⟨k,hk,rfl⟩:=List.getElem_of_mem ht;have ki:k<i:=G5 fun z=>by
   by_cases q:k=i
   ·subst q;omega
   ·have:=h i k hi hk (by omega);omega
  exact List.mem_take_iff_getElem.mpr ⟨k,by omega,rfl⟩
theorem zI{cs:List Nat}(h:cs.Pairwise (·<·)){i c:Nat}(e:cs[i]?=some c)(t:Nat):t∈cs.take (i+1)<->t∈cs/\t<c+1:=by
 rw[GI,e,GX,Gj,xq h e,F2];constructor
 ·rintro(⟨a,b⟩|rfl)
  ·exact⟨a,by omega⟩
  ·exact⟨Gb e,by omega⟩
 ·rintro⟨a,b⟩;by_cases z:t=c
  ·exact .inr z
  ·exact .inl ⟨a,by omega⟩
theorem nk(g:Nat->Option Col):∀i,(bx g i).length<=i
 | 0=>GO _
 |i+1=>by
  have ih:=nk g i;cases e:g i with
  |none=>rw[i5 e];omega
  |some c=>
   by_cases h:c∈bx g i
   ·rw[mB e h];omega
   ·rw[jY e h,Gd,G7];omega
end L2
namespace L2
open PySem PySem.Spec PyProof.Rows LM
theorem C4(a b:Nat):∃r:Nat,Builtin.bitXor (a:Int) (b:Int)=(r:Nat):=by refine⟨(a|||b)-(a&&& b),?_⟩;show Builtin.bitOr (a:Int) b-Builtin.bitAnd (a:Int) b=_;rw[My.yU,My.qy];have h1:a&&& b<=a:=Nat.and_le_left;have h2:a<=a|||b:=Nat.left_le_or;omega
structure Plt where
 g:Nat
 S:Sh
 R:iM
 last:Int
def PlE(K:Frag)(H:Hp)(v:V)(p:Plt):Prop:=∃l ls lr,v=.ref l/\SqT K H l [.int (p.g:Nat),.ref ls,.ref lr,.int p.last]/\ShT K H ls p.S/\StrT K H lr p.R
theorem PlE.tk{K:Frag}{H H':Hp}{v:V}{p:Plt}(t:TK H H')(h:PlE K H v p):PlE K H' v p:=by obtain⟨l,ls,lr,e,h1,h2,h3⟩:=h;exact⟨l,ls,lr,e,t.sq h1,h2.tk t,h3.tk t⟩
structure xa(ss:List Str)(rs:List (List Key))(p:Plt):Prop where
 lt:p.g<2^64
 gs:GS ss p.S
 st:∃f,ij f p.R/\(∀i,i<64->((f i).isSome=true<->p.g.testBit i=true))/\∀i c,f i=some c->c.length<=12/\∀r∈c,r∈rs
noncomputable def plD(p:Plt):PyData:=.tuple [.int (p.g:Nat),shD p.S,uE p.R,.int p.last]
theorem PlE.isD{K:Frag}{H:Hp}{v:V}{p:Plt}(h:PlE K H v p):IsD K H (plD p) v:=by obtain⟨l,ls,lr,rfl,h1,h2,h3⟩:=h;exact .tup h1 (.cons (.int _) (.cons h2.isD (.cons h3.isD (.cons (.int _) .nil))))
theorem PlE.lay{K:Frag}{H:Hp}{v:V}{p:Plt}{ss:List Str}{rs:List (List Key)}(h:PlE K H v p)(o:xa ss rs p)(hs:∀x∈ss,PyData.canLay0 (.str x)=true):(plD p).canLay0=true:=by obtain⟨l,ls,lr,rfl,h1,h2,h3⟩:=h;have a:=DK (S:=p.S) fun q hq=>hs _ (o.gs.nm q hq);have b:(uE p.R).canLay0=true:=vi h3.lay;show(PyData.canLay0 (.int (p.g:Nat))&&((shD p.S).canLay0&&((uE p.R).canLay0&&(PyData.canLay0 (.int p.last)&&true))))=true;rw[a,b];rfl
theorem uf(p:Plt):(plD p).depth<=6:=by have a:(shD p.S).depth<=4:=Nat.succ_le_succ (xP p.S);have b:=AO p.R;show max _ (max (shD p.S).depth (max (uE p.R).depth (max _ 0)))+1<=6;have c:∀i:Int,(PyData.int i).depth<=1:=fun _=>Gq rfl;have c1:=c (p.g:Nat);have c2:=c p.last;omega
theorem jP:∀{ds:List PyData},(∀d∈ds,Pln d)->vR ds
 | [],_=>.nil
 |d::ds,h=>.cons (h d (F7 ..)) (jP fun e he=>h e (F1 _ he))
theorem xv{S:Sh}(h:S.length<=1000):Pln (shD S):=.tup (by rw[FY];exact h) (jP fun d hd=>by
 obtain⟨p,_,rfl⟩:=Ge.mp hd
 exact .tup (Gq rfl) (.cons (.str _) (.cons (.tup (Gq rfl) (.cons (.int _) (.cons (.int _) .nil))) .nil)))
theorem BE{r:List Key}(h:r.length<=1000):Pln (.tuple (r.map gT)):=.tup (by rw[FY];exact h) (jP fun d hd=>by
 obtain⟨k,_,rfl⟩:=Ge.mp hd;cases k with
 |inl i=>exact .int i
 |inr x=>exact .str x)
theorem xw{c:Col}(h:c.length<=1000)(hr:∀r∈c,r.length<=1000):Pln (k8 c):=.tup (by rw[FY];exact h) (jP fun d hd=>by
 obtain⟨r,hr',rfl⟩:=Ge.mp hd
 exact BE (hr r hr'))
theorem fE.An{r:List Key}(h:fE r):r.length<=1000:=by obtain⟨_,_,_,_,_,rfl⟩:=h;show 5<=1000;decide
theorem xa.pln{ss:List Str}{rs:List (List Key)}{p:Plt}(o:xa ss rs p)(hs:ss.length<=1000)(hb:∀r∈rs,fE r):Pln (plD p):=by
 obtain⟨f,h1,h2,h3⟩:=o.st;have a:Pln (shD p.S):=xv (GA o.gs.len hs)
 have b:Pln (uE p.R):=.tup (by rw[FY];exact GA h1.len (by decide)) (jP fun d hd=>by
  obtain⟨q,hq,rfl⟩:=Ge.mp hd;obtain⟨q1,q0,qb⟩:=h1.ok q hq;have l1:dS q.1<64:=iY q1 (by decide) q0;have e:=(qb _ l1).mp (eI q1 q0).1;obtain⟨c1,c2⟩:=h3 _ _ e
  exact .tup (Gq rfl) (.cons (.int _) (.cons (xw (by omega) fun r hr=>(hb r (c2 r hr)).An) .nil)))
 exact .tup (Gq rfl) (.cons (.int _) (.cons a (.cons b (.cons (.int _) .nil))))
def Dis(a b:Nat):Prop:=∀j,¬(a.testBit j=true/\b.testBit j=true)
theorem Dis.symm{a b:Nat}(h:Dis a b):Dis b a:=fun j z=>h j ⟨z.2,z.1⟩
theorem rV{w h r:Nat}{ps:List Nat}(a:iN w h r ps)(hr:r<2^64):(∀p∈ps,p≠0/\Sub p r)/\ps.Pairwise Dis:=by
 induction a with
 |nil=>exact⟨fun _ z=>(nomatch z),.nil⟩
 | @cons r p ps z cp _ ih=>
  obtain⟨i1,i2⟩:=ih (qm hr);refine⟨fun q hq=>?_,?_⟩
  ·rcases Gg.mp hq with rfl|hq
   ·exact⟨(qo hr z cp).1,fun j hj=>cp.sub hj⟩
   ·refine⟨(i1 q hq).1,fun j hj=>?_⟩;have:=(i1 q hq).2 j hj;rw[hZ,G8]at this;exact this.1
  ·rw[List.pairwise_cons];refine⟨fun q hq j ⟨h1,h2⟩=>?_,i2⟩;have:=(i1 q hq).2 j h2;rw[hZ,h1,Bool.not_true,Bool.and_false]at this;cases this
theorem zE(n c:Nat)(hc:c<2^n):2^n-1-c=dif (2^n-1) c:=by
 unfold dif;have:(2^n-1)&&& c=c:=by rw[Nat.and_comm,Nat.and_two_pow_sub_one_eq_mod,Nat.mod_eq_of_lt hc]
 rw[this]
theorem w6{w h c:Nat}{ps qs:List Nat}(hw:0<w)(hc:c<2^(w*h))(h64:w*h<=64)(a:iN w h c ps)(b:iN w h (dif (2^(w*h)-1) c) qs):
  (∀p∈ps++qs,p≠0/\p<2^(w*h))/\(ps++qs).Pairwise Dis/\(∀p∈ps++qs,∃r,r<2^(w*h)/\∀k,p.testBit k=true->cU w h r k p)/\ps.length<=64/\qs.length<=64:=by
 have le:2^(w*h)<=2^64:=GY (by decide) h64;have pos:0<2^(w*h):=Nat.two_pow_pos _;have hd:dif (2^(w*h)-1) c<2^(w*h):=qm (by omega);obtain⟨a1,a2⟩:=rV a (F5 hc le);obtain⟨b1,b2⟩:=rV b (F5 hd le);have cl:∀r,g5 w h r r:=fun r j i _ _ z=>z;have sb:∀r,LM.Sub r r:=fun r j z=>z;have ma:=(a.mem hw hc h64 (cl c) (sb c)).1;have mb:=(b.mem hw hd h64 (cl _) (sb _)).1;refine⟨fun p hp=>?_,?_,fun p hp=>?_,a.len (by decide) (F5 hc le),b.len (by decide) (F5 hd le)⟩
 ·rcases Gj.mp hp with z|z
  ·exact⟨(a1 p z).1,kY fun j hj=>gh hc ((a1 p z).2 j hj)⟩
  ·exact⟨(b1 p z).1,kY fun j hj=>gh hd ((b1 p z).2 j hj)⟩
 ·rw[List.pairwise_append];refine⟨a2,b2,fun p hp q hq j ⟨h1,h2⟩=>?_⟩;have z1:=(a1 p hp).2 j h1;have z2:=(b1 q hq).2 j h2;rw[hZ,z1,Bool.not_true,Bool.and_false]at z2;cases z2
 ·rcases Gj.mp hp with z|z
  ·exact⟨c,hc,ma p z⟩
  ·exact⟨_,hd,mb p z⟩
structure qz(w h:Nat)(ss:List Str)(rs:List (List Key))(ps:List Plt):Prop where
 ok:∀p∈ps,xa ss rs p/\p.g≠0/\p.g<2^(w*h)/\1<=p.last/\p.last<=1000000000
 len:ps.length<=8
 ap:(ps.map (·.g)).Pairwise Dis
 one:∀p∈ps,∃r,r<2^(w*h)/\∀k,p.g.testBit k=true->cU w h r k p.g
 bur:∀r∈rs,fE r
 r13:rs.length=13
theorem qz.rev{w h:Nat}{ss:List Str}{rs:List (List Key)}{ps:List Plt}(o:qz w h ss rs ps):qz w h ss rs ps.reverse:=by refine⟨fun p hp=>o.ok p (List.mem_reverse.mp hp),by rw[List.length_reverse];exact o.len,?_,fun p hp=>o.one p (List.mem_reverse.mp hp),o.bur,o.r13⟩;rw[List.map_reverse,List.pairwise_reverse];exact o.ap.imp fun z=>z.symm
theorem pL{K:Frag}{H:Hp}{xs:List V}{ps:List Plt}(hI:Paired (PlE K H) xs ps):eA K H (ps.map plD) xs:=by
 induction hI with
 |nil=>exact .nil
 |cons a b ih=>exact .cons a.isD (ih)
theorem lV:∀{ps:List Plt},(∀p∈ps,(plD p).canLay0=true)->PyData.canLayAll0 (ps.map plD)=true
 | [],_=>rfl
 |p::ps,h=>by show((plD p).canLay0&&PyData.canLayAll0 (ps.map plD))=true;rw[h p (F7 ..),lV fun q hq=>h q (F1 _ hq)];rfl
theorem xu:∀(ps:List Plt),PyData.depthAll (ps.map plD)<=6
 | []=>GO _
 |p::ps=>by have a:=uf p;have b:=xu ps;show max (plD p).depth (PyData.depthAll (ps.map plD))<=6;omega
theorem Dt{K:Frag}{H:Hp}{xs:List V}{ps:List Plt}(hI:Paired (PlE K H) xs ps):Paired (HdE K H) xs (ps.map (·.g)):=by
 induction hI with
 |nil=>exact .nil
 |cons hI0 b ih=>obtain⟨l,_,_,e,h,_⟩:=hI0;exact .cons ⟨l,_,e,h⟩ (ih)
theorem Paired.right{α β:Type}{R:α->β->Prop}{as:List α}{bs:List β}(h:Paired R as bs){b:β}(hb:b∈bs):∃a∈as,R a b:=by
 induction h with
 |nil=>cases hb
 |cons x _ ih=>
  rcases Gg.mp hb with e|e
  ·subst e;exact⟨_,F7 ..,x⟩
  ·obtain⟨a,h1,h2⟩:=ih e;exact⟨a,F1 _ h1,h2⟩
end L2
namespace L2
open PySem PySem.Spec PyProof.Rows
def oq(K:Frag)(C:Addr):Prop:=∃fI,PySem.W.jK K C PySem.W.vErr4 "ValueError.__new__" fI=true
theorem lj{K:Frag}{h:Heap}{C:Addr}(X:K.In h)(z:oq K C):
  ∃tl N nm qn bs hd sn sub ab col dd k0 k1 k2 k3 k5,h.get? C=some (excClassObj nm qn C N bs tl hd sn sub ab col dd k0 k1 k2 k3 k5 "ValueError.__new__")/\OwnTail h vErr tl/\∀b r,mroIn K C b=some r->(Value.ref C::tl).contains b=r:=by
 obtain⟨fI,z⟩:=z;obtain⟨tl,N,nm,qn,bs,hd,sn,sub,ab,col,dd,k0,k1,k2,k3,k5,mN,h1,_,_,h4,h5⟩:=PySem.W.i4 X z;exact⟨tl,N,nm,qn,bs,hd,sn,sub,ab,col,dd,k0,k1,k2,k3,k5,h1,h4,h5⟩
def mH(h:Heap)(x:Addr)(od:Option Addr):Prop:=∃o,h.get? x=some o/\o.dict=od
theorem mH.kp{h h':Heap}{x:Addr}{od:Option Addr}(d:mH h x od)(k:DKp h h'):mH h' x od:=by obtain⟨o,e,ed⟩:=d;obtain⟨o',e',ed',_⟩:=k x o e;exact⟨o',e',ed'.trans ed⟩
noncomputable def CXn(P:Program)(w:World):CXT:=fun outer H s E e s'=>∃x C T H' a0 od,e=.ref x/\s'.os=s.os/\AllBare s'.gens/\Un (frs outer) [] H H' s.heap s'.heap/\HOk P w H' s'.heap/\
 s.heap.get? x=none/\s.heap.get? T=none/\H' x=none/\H' T=none/\Trc s'.heap x T (.ref C) a0/\mH s'.heap x od/\E (.ref C) od H'
noncomputable def jf(H:Hp)(x:Addr):Hp:=fun b=>if b=x then none else H b
theorem gV(H:Hp)(x:Addr):jf H x x=none:=F8 rfl
theorem f7{H:Hp}{x b:Addr}(h:b≠x):jf H x b=H b:=F6 h
section
variable{X:Cx}{pins:List (Addr×Obj)}{σ:St}{H:Hp}{s:Shared}
theorem Inv.untrackO{x C:Addr}{d:Option Addr}(I:Inv X pins σ H s)(hx:H x=some (XO x C d)):Inv X pins σ (jf H x) s:=by
 have nt:∀b xs,H b=some (.tup xs)->b≠x:=fun b xs e z=>by rw[z,hx]at e;cases e
 have no:∀b y,H b=some (.own y)->b≠x:=fun b y e z=>by rw[z,hx]at e;cases e
 have dn:∀b,H b=none->jf H x b=none:=fun b e=>by
  unfold jf;split
  ·rfl
  ·exact e
 refine⟨I.ok,I.os,I.bare,⟨I.base.keep,I.base.slot,fun b o' e1 n hx'=>dn b (I.base.free b o' e1 n hx'),I.base.there,fun b xs e1=>?_,fun b o' u e1=>?_,fun b ps e1=>?_⟩,I.loc,I.cell,dn _ I.free,fun y c e1=>dn _ (I.freeC y c e1),fun p hp=>?_,fun b u e1=>?_,I.len⟩
 ·have q:=I.base.tups b xs e1;rw[f7 (nt b _ q)];exact q
 ·have q:=I.base.frzs b o' u e1;rw[f7 (fun z=>by rw[z,hx]at q;cases q)];exact q
 ·obtain⟨more,q⟩:=I.base.tbls b ps e1;exact⟨more,by rw[f7 (fun z=>by rw[z,hx]at q;cases q)];exact q⟩
 ·obtain⟨a1,a2,a3⟩:=I.pin p hp;exact⟨a1,dn _ a2,a3⟩
 ·by_cases hb:b=x
  ·rw[hb,gV]at e1;cases e1
  ·rw[f7 hb]at e1;refine(I.hok b u e1).stay (fun _ _ _ q=>q) (fun c q=>?_) fun c xs q=>?_
   ·rw[f7 (no c _ q)];exact q
   ·rw[f7 (nt c _ q)];exact q
theorem Inv.new{x:Addr}{o:HO}(I:Inv X pins σ H s)(hex:X.ex=[])(hx:H x=some o)(h0:X.H₀ x=none):X.s₀.heap.get? x=none:=by
 cases q:X.s₀.heap.get? x with
 |none=>rfl
 |some ob=>have:=I.base.free x ob q h0 (by rw[hex];simp);rw[hx]at this;cases this
end
section
variable{P:Program}{w:World}{K:Frag}{mg:Str->Option Value}{base:Heap}{N:List Str}{qual:Str}{scope:Scope}{f:Addr}{cd:Value}{A:Around}{outer:List Env}{s:Shared}{H:Hp}{E:XK}
 {pins:List (Addr×Obj)} {σ:St}
theorem C5{x T C:Addr}{a0:Value}{od:Option Addr}{H2 H':Hp}{s2 s':Shared}(I2:Inv (cT (CXn P w) P w K mg base N qual scope f cd A outer s H E) pins σ H2 s2)(n1:s2.heap.get? x=none)(n2:s2.heap.get? T=none)
  (I:Inv (cT (CXn P w) P w K mg base N qual scope f cd A outer s H E) pins σ H' s') (t:Trc s'.heap x T (.ref C) a0) (u1:H' x=none) (u2:H' T=none) (dc:mH s'.heap x od) (e:E (.ref C) od H'):
  (cT (CXn P w) P w K mg base N qual scope f cd A outer s H E).xe (.ref x) s':=by
 obtain⟨p1,p2,p3,p4⟩:=I2.apart rfl n1;obtain⟨r1,r2,r3,r4⟩:=I2.apart rfl n2;refine Gy ((fw _ _).any (wpAny_leaves_onW (Q:=fun _ s4=>∃h',s4={s' with heap:=h'}/\Heap.FlyingW (PySem.W.hideAll s'.heap (frs (cT (CXn P w) P w K mg base N qual scope f cd A outer s H E).stack++[x,T])) outer x (.ref C) a0 h'/\s'.heap.UpToSlots h') (outer:=outer) I.ok.frames rfl (ue I t) fun h' fl us=>⟨h',rfl,fl,us⟩)) (fun _ s4 z=>?_) fun _ _ z=>z.1;obtain⟨⟨h',rfl,fl,us⟩,dk⟩:=z;have J:=I.landed (t':=s'.toks) p1 r1 u1 u2 p2 r2 p3 r3 p4 r4 fl.1 us
 obtain⟨T',t',q1,q2⟩:=gG I rfl rfl (as:=[x,T]) (fun b hb=>by
  rcases Gg.mp hb with q|q
  ·subst q;exact⟨p1,u1⟩
  ·rw[F2]at q;subst q;exact⟨r1,u2⟩) (fun b hb=>by obtain⟨_,o,ho,nf⟩:=J.stack.mem hb;exact⟨o,ho,nf⟩) fl.2.2.2
 exact⟨x,C,T',H',a0,od,rfl,J.os,J.bare,J.base,J.hok,p1,q1,u1,q2,t',dc.kp dk,e⟩
theorem jF{E':XK}(h:∀C o H,E' C o H->E C o H):Passes (CXn P w) (cT (CXn P w) P w K mg base N qual scope f cd A outer s H E) E':=by rintro pins σ H2 s2 e s' I2 ⟨x,C,T,H',a0,od,rfl,os,bare,un,hok,n1,n2,u1,u2,t,dc,ee⟩;exact C5 I2 n1 n2 (I2.call' (ch:=[]) os un hok bare (fun _ z=>nomatch z)) t u1 u2 dc (h _ _ _ ee)
theorem sJ{x C:Addr}{od:Option Addr}{H1:Hp}{s1:Shared}(I:Inv (cT (CXn P w) P w K mg base N qual scope f cd A outer s H E) pins σ H1 s1)(hx:H1 x=some (XO x C od))(h0:H x=none)(ee:E (.ref C) od (jf H1 x)):
  (cT (CXn P w) P w K mg base N qual scope f cd A outer s H E).xe (.ref x) s1:=by
 obtain⟨t0,ht0⟩:=(I.hok x _ hx).1;have I1:=I.untrackO hx;have p1:s.heap.get? x=none:=I.new rfl hx h0;have p2:∀p∈(cT (CXn P w) P w K mg base N qual scope f cd A outer s H E).pn++pins,p.1≠x:=fun p hp z=>by have:=(I.pin p hp).2.1;rw[z,hx]at this;cases this
 have p3:∀y c,(cT (CXn P w) P w K mg base N qual scope f cd A outer s H E).env.cells.lookup y=some c->c≠x:=fun y c e z=>by have:=I.freeC y c e;rw[z,hx]at this;cases this
 have p4:x≠(cT (CXn P w) P w K mg base N qual scope f cd A outer s H E).env.locals:=fun z=>by have:=I.free;rw[<-z,hx]at this;cases this
 refine Gy ((fw _ _).any (wpAny_leaving_firstW (Q:=fun _ s4=>∃h',s4={s1 with heap:=h'}/\Heap.LeftW (PySem.W.hideAll s1.heap (frs (envOfC qual scope s.heap.objs.size f cd::outer)++[x])) (envOfC qual scope s.heap.objs.size f cd::outer) x (.ref C) (.ref t0) s1.heap h')
  (base:=PySem.W.hideAll s1.heap (frs (envOfC qual scope s.heap.objs.size f cd::outer)++[x])) (outer:=outer) I.ok.frames (PySem.W.funFrames_hide I.stack fun env he a ha=>GC _ (List.mem_filterMap.mpr ⟨env,he,ha⟩)) rfl ht0 (fun b o q=>PySem.W.of_hideAll _ q) (HL _ (by simp)) rfl rfl rfl fun h' hL=>⟨h',rfl,hL⟩)) (fun _ s4 z=>?_) fun _ _ z=>z.1
 obtain⟨⟨h',rfl,k1,k2,k3,k4⟩,dk⟩:=z
 have J:Inv (cT (CXn P w) P w K mg base N qual scope f cd A outer s H E) pins σ (jf H1 x) {s1 with heap:=h',toks:=s1.toks}:=I1.flown (ch:=[x]) (fun b hb=>by
   rw[F2]at hb;subst hb;exact⟨p1,gV _ _,p4,p3,p2⟩)
  (fun b o hb hc e'=>k1 b o (PySem.W.hideAll_get _ e' fun z=>by
   rcases Gj.mp z with q|q
   ·exact hb q
   ·exact hc q)) (fun b o hb e'=>by
  obtain⟨_,o',ho,hnf⟩:=I.stack.mem hb;rw[e']at ho;cases ho
  exact k4 b o e' hnf)
 obtain⟨T',t',q1,q2⟩:=gG I1 rfl rfl (as:=[x]) (fun b hb=>by rw[F2]at hb;subst hb;exact⟨p1,gV _ _⟩) (fun b hb=>by obtain⟨_,o,ho,nf⟩:=J.stack.mem hb;exact⟨o,ho,nf⟩) k3;exact⟨x,C,T',jf H1 x,_,od,rfl,J.os,J.bare,J.base,J.hok,p1,q1,gV _ _,q2,t',mH.kp ⟨_,ht0,rfl⟩ dk,ee⟩
end
section
variable{M:Model}{A:Around}{E:Value->Shared->Prop}{env:Env}{s:Shared}
theorem wg{x:Sem Value}{Q:Flow->Shared->Prop}(hh:A.handled=none)
  (h:wpAny M A x (fun v s1=>∃e t d C tl N nm qn bs hd sn sub ab col dd k0 k1 k2 k3 k5,v=.ref e/\s1.heap.get? C=some (excClassObj nm qn C N bs tl hd sn sub ab col dd k0 k1 k2 k3 k5 "ValueError.__new__")/\tl.contains (.type "BaseException")=true/\
   s1.heap.get? e=some {cls:=.ref C,dict:=d,data:=.fields #[.ref t,.none,.none,.none,.bool false,.none]}/\E (.ref e) s1) E s):wpAny M A (raiseStmt env (some x) none) Q E s:=by
 unfold raiseStmt;refine FZ (Gy h (fun v s1 h1=>?_) fun _ _ z=>z);obtain⟨e,t,d,C,tl,N,nm,qn,bs,hd,sn,sub,ab,col,dd,k0,k1,k2,k3,k5,rfl,hC,hb,he,hE⟩:=h1;have hcB:(Value.ref C::tl).contains (.type "BaseException")=true:=by rw[List.contains_cons,hb,Bool.or_true]
 obtain⟨hp,g,dr,tk,os⟩:=s1
 repeat (first|with_reducible refine G4 he ?_|with_reducible refine G4 hC ?_|(with_reducible refine wpAny_isSubtype_exc hC ?_;rw[hcB])|wp_step)
 exact wpAny_raiseNew_none hh hE
end
section
variable{X:Cx}
def Fo(K:Frag)(t:TE)(W:Addr->Value->Option Addr->Hp->Prop):TS:=fun _ σ H=>t σ H fun v H1=>∃x C od,v=.ref x/\H1 x=some (XO x C od)/\oq K C/\W x (.ref C) od H1
theorem mO{e:Expr}{t:TE}{pos:Pos}{W:Addr->Value->Option Addr->Hp->Prop}(hc:X.calm=true)(he:PE X e t)
  (hw:∀pins σ H1 s1 x C od,Inv X pins σ H1 s1->H1 x=some (XO x C od)->W x (.ref C) od H1->X.xe (.ref x) s1):PS X (.Raise (some e) none pos) (Fo X.K t W):=by
 intro pins s σ H D I h;rw[arm_exec_Raise];refine FZ (wpAny_standAt (wg (I.ok.hd hc) ?_));refine FZ (Gy (he pins s σ H _ I h) (fun v s1 z=>FZ (wpAny_standAt (F3 ?_))) fun _ _ z=>z);obtain⟨x,H1,I1,rv,a,C,od,rfl,hx,Z,q⟩:=z;cases rv;obtain⟨t0,ht0⟩:=(I1.hok a _ hx).1;obtain⟨tl,N,nm,qn,bs,hd,sn,sub,ab,col,dd,k0,k1,k2,k3,k5,hC,T,_⟩:=lj I1.kIn Z;exact⟨a,t0,od,C,tl,N,nm,qn,bs,hd,sn,sub,ab,col,dd,k0,k1,k2,k3,k5,rfl,hC,T.hasType rfl,ht0,hw pins σ H1 s1 a C od I1 hx q⟩
def RzW(H0:Hp)(E:XK):Addr->Value->Option Addr->Hp->Prop:=fun x cls od H1=>H0 x=none/\E cls od (jf H1 x)
structure DfN(P:Program)(w:World)(K:Frag)(mg:Str->Option Value)(base:Heap)(k:Nat)(x:Str)(ps:List Str)(sp:Sp):Prop where
 ex:∃f fd,ji P w K mg base (CXn P w) k f fd ps sp/\Binds K fd ps []/\mg x=some (.ref f)/\keepIn K (.ref f)=true
theorem Tx.dfN{P:Program}{w:World}{K:Frag}{mg:Str->Option Value}{base:Heap}{x:Str}{st:Stmt}{N ps:List Str}{k:Nat}{sp:Sp}(T:Tx K mg x st ps)(S:aD N ps (aq st))
  (len:∀vs H Q E,sp vs H Q E->vs.length=ps.length)
  (hbody:∀(f:Addr)(cdv:Value)(A:Around)(outer:List Env)(s:Shared)(H:Hp)(vs:List V)(Q:VK)(E:XK),cb k (A.deeper (envOfC x (aq st) s.heap.objs.size f cdv))->sp vs H Q E->
   ∃t,PSs (cT (CXn P w) P w K mg base N x (aq st) f cdv A outer s H E) (bB st) t/\t {nx:=fun _ H'=>Q .non H',rt:=Q} (start N vs) H):DfN P w K mg base (k+1) x ps sp:=by
 obtain⟨f,fd,F,b,hm⟩:=T.ex;obtain⟨oc,od,kV,doc,pm,an,cdv,ct,osl,rfl,lk,hcd⟩:=id F.ex;exact⟨f,_,vq lk hcd S len fun A outer s H vs Q E hr h=>hbody f cdv A outer s H vs Q E hr h,b,hm,F.kp⟩
theorem wq{j k:Nat}{x:Str}{ps:List Str}{sp:Sp}{E:XK}{p pos:Pos}{e:Expr}{es:List Expr}{t:TA}(D:DfN X.prog X.w X.K X.mg X.base j x ps sp)(hr:cb k X.A)(hx:Passes (CXn X.prog X.w) X E)(ha:PA X (e::es) t)(hg:Gl X x:=by rfl)(hj:j<=k:=by decide)
  (hdb:(x==("__debug__":Str))=false:=by decide) (he:starEach (e::es) X.env=(false,eval e X.env)::starEach es X.env:=by rfl) (hpl:(backTo pos (starEach es X.env)).any (·.1)=false:=by rfl):
  PE X (.Call (.Name x p) (e::es) [] pos) (tCE sp E t):=by
 obtain⟨f,fd,F,b,hm,kp⟩:=D.ex;have h:=tJ (ds:=[]) (dvs:=[]) (E:=E) (p:=p) (pos:=pos) F (hr.mono hj) hg hm kp b .nil hx ha hdb he hpl;have e1:kg sp [] E t=tCE sp E t:=by funext σ H Q;unfold kg tCE;simp only[GF]
 rw[e1]at h;exact h
end
def XBn(X:Cx)(pins:List (Addr×Obj))(W:XK):Value->Shared->Prop:=fun e s'=>∃x C T σ' H2 s2 H' a0 od,e=.ref x/\Inv X pins σ' H2 s2/\s2.heap.get? x=none/\s2.heap.get? T=none/\Inv X pins σ' H' s'/\
 Trc s'.heap x T (.ref C) a0/\H' x=none/\H' T=none/\mH s'.heap x od/\W (.ref C) od H'
noncomputable abbrev Cx.triedN(X:Cx)(pins:List (Addr×Obj))(W:XK):Cx:={X with pn:=X.pn++pins,xe:=XBn X pins W}
structure A7(K:Frag)(mg:Str->Option Value)(c:Str)(C:Addr):Prop where
 ok:oq K C
 ex:∃C',mg c=some (.ref C')/\oq K C'/\mroIn K C (.ref C')=some true
noncomputable def XN(x C:Addr)(od:Option Addr):HO:=.ext fun h=>∃o vs,h.get? x=some o/\o.cls=.ref C/\o.dict=od/\o.data=.fields vs
section
variable{X:Cx}{pins:List (Addr×Obj)}{σ:St}{H:Hp}{s:Shared}{W:XK}
theorem Inv.triedN(I:Inv X pins σ H s)(W:XK):Inv (X.triedN pins W) [] σ H s:=
 ⟨⟨I.ok.mod,I.ok.kind,I.ok.glob,I.ok.blt,I.ok.above,I.ok.inj,I.ok.has,I.ok.cab,I.ok.hd,I.ok.frames,I.ok.stk,I.ok.exf,I.ok.bs,I.ok.bsz,I.ok.noex,I.ok.exfs,I.ok.funs,I.ok.frf⟩,I.os,I.bare,I.base,I.loc,I.cell,I.free,I.freeC,fun p hp=>I.pin p (by simpa using hp),I.hok,I.len⟩
theorem Inv.untriedN{pins':List (Addr×Obj)}(I:Inv (X.triedN pins W) pins' σ H s):Inv X pins σ H s:=
 ⟨⟨I.ok.mod,I.ok.kind,I.ok.glob,I.ok.blt,I.ok.above,I.ok.inj,I.ok.has,I.ok.cab,I.ok.hd,I.ok.frames,I.ok.stk,I.ok.exf,I.ok.bs,I.ok.bsz,I.ok.noex,I.ok.exfs,I.ok.funs,I.ok.frf⟩,I.os,I.bare,I.base,I.loc,I.cell,I.free,I.freeC,fun p hp=>I.pin p (GC _ hp),I.hok,I.len⟩
theorem SP.untriedN{D:Ends}{f:Flow}{s':Shared}(h:SP (X.triedN pins W) [] D f s'):SP X pins D f s':=by
 cases f with
 |next=>obtain⟨σ',H',I,q⟩:=h;exact⟨σ',H',I.untriedN,q⟩
 |brk=>obtain⟨σ',H',I,q⟩:=h;exact⟨σ',H',I.untriedN,q⟩
 |cont=>obtain⟨σ',H',I,q⟩:=h;exact⟨σ',H',I.untriedN,q⟩
 |ret u=>obtain⟨v,σ',H',I,r,q⟩:=h;exact⟨v,σ',H',I.untriedN,r,q⟩
theorem yn{E':XK}(h:∀C o H,E' C o H->W C o H):Passes (CXn X.prog X.w) (X.triedN pins W) E':=by rintro pins' σ H2 s2 e s' I2 ⟨x,C,T,H',a0,od,rfl,os,bare,un,hok,n1,n2,u1,u2,t,dc,ee⟩;exact⟨x,C,T,σ,H2,s2,H',a0,od,rfl,I2.untriedN,n1,n2,(I2.call' (ch:=[]) os un hok bare (fun _ z=>nomatch z)).untriedN,t,u1,u2,dc,h _ _ _ ee⟩
theorem Inv.trackN{x C:Addr}{od:Option Addr}{o:Obj}{vs:Array Value}(I:Inv X pins σ H s)(n1:X.s₀.heap.get? x=none)(u1:H x=none)(p2:∀p∈X.pn++pins,p.1≠x)(p3:∀y c,X.env.cells.lookup y=some c->c≠x)(p4:x≠X.env.locals)
  (e:s.heap.get? x=some o) (hc:o.cls=.ref C) (hd:o.dict=od) (hv:o.data=.fields vs):Inv X pins σ (upd H x (XN x C od)) s:=by
 have nx:∀b u,H b=some u->b≠x:=fun b u e z=>by rw[z,u1]at e;cases e
 refine⟨I.ok,I.os,I.bare,⟨I.base.keep,I.base.slot,fun b o' e1 n hx=>?_,I.base.there,fun b xs e1=>?_,fun b o' u e1=>?_,fun b ps e1=>?_⟩,I.loc,I.cell,?_,fun y c e1=>?_,fun p hp=>?_,fun b u e1=>?_,I.len⟩
 ·rw[az (fun z=>by rw[z,n1]at e1;cases e1)];exact I.base.free b o' e1 n hx
 ·have q:=I.base.tups b xs e1;rw[az (nx b _ q)];exact q
 ·have q:=I.base.frzs b o' u e1;rw[az (nx b _ q)];exact q
 ·obtain⟨more,q⟩:=I.base.tbls b ps e1;exact⟨more,by rw[az (nx b _ q)];exact q⟩
 ·rw[az (Hg p4)];exact I.free
 ·rw[az (p3 y c e1)];exact I.freeC y c e1
 ·obtain⟨a1,a2,a3⟩:=I.pin p hp;exact⟨a1,by rw[az (p2 p hp)];exact a2,a3⟩
 ·by_cases hb:b=x
  ·subst hb;rw[af]at e1;cases e1;exact⟨⟨o,vs,e,hc,hd,hv⟩,⟨o,e⟩,fun h1 h2 ⟨o1,v1,f1,f2⟩ k=>⟨o1,v1,k o1 f1,f2⟩⟩
  ·rw[az hb]at e1;refine(I.hok b u e1).stay (fun _ _ _ q=>q) (fun c q=>?_) fun c xs q=>?_
   ·rw[az (nx c _ q)];exact q
   ·rw[az (nx c _ q)];exact q
theorem yI{x T C:Addr}{a0:Value}{od:Option Addr}{H2 H':Hp}{s2 s':Shared}{h5:Heap}{c n:Str}{i:Nat}{cp hp:Pos}{b0:Stmt}{suite:List Stmt}{th:TS}{D:Ends}{rest:List ExceptHandler}(hst:X.stack=X.env::X.outer)(hex:X.ex=[])
  (hN:X.N.Nodup) (hi:X.N[i]?=some n) (hl:X.env.kindOf n=some .local)
  (I2:Inv X pins σ H2 s2) (n1:s2.heap.get? x=none) (n2:s2.heap.get? T=none) (I:Inv X pins σ H' s') (u1:H' x=none) (u2:H' T=none)
  (fl5:Heap.FlyingW (PySem.W.hideAll s'.heap (frs (X.env::X.outer)++[x,T])) (X.env::X.outer) x (.ref C) a0 h5) (us45:s'.heap.UpToSlots h5) (dc:mH h5 x od)
  (Z:A7 X.K X.mg c C) (hs:∀y,PSs (X.marked y) (b0::suite) th) (q:th (D.gone i) (σ.set i (some (.ref x))) (upd H' x (XN x C od))) (hg:Gl X c) (hdb:(c==("__debug__":Str))=false) {E:Value->Shared->Prop}:
  wpAny (model X.prog X.w) X.A (handleBy (.ref x) X.env (.ExceptHandler (some (.Name c cp)) (some n) (b0::suite) hp::rest)) (SP X pins D) E {s' with heap:=h5}:=by
 obtain⟨p1,p2,p3,p4⟩:=I2.apart hex n1;obtain⟨r1,r2,r3,r4⟩:=I2.apart hex n2;obtain⟨C',Zg,Zc,hm⟩:=Z.ex;have J:=I.landed (t':=s'.toks) p1 r1 u1 u2 p2 r2 p3 r3 p4 r4 (hst▸fl5.1) us45;obtain⟨oe,he,hcl⟩:=fl5.there;obtain⟨tl,N,nm,qn,bs,hd,sn,sub,ab,col,dd,k0,k1,k2,k3,k5,hC,_,hmr⟩:=lj J.kIn Z.ok;obtain⟨tl',N',nm',qn',bs',hd',sn',sub',ab',col',dd',j0,j1,j2,j3,j5,hC',T',_⟩:=lj J.kIn Zc;refine wpAny_handleBy_cons (codeAny_handlers_test (gx (X:=X.marked x) (J.marked x) hg Zg ?_ hdb)) (by intro z;cases z);refine gU hC hC' he hcl (T'.hasType rfl) (hmr _ _ hm) ?_;refine codeAny_handlers_suite_as ?_;refine Gy ((cQ _ _).any (lands_againW (Q:=fun _ s4=>∃h6,s4={s' with heap:=h6}/\Heap.FlyingW (PySem.W.hideAll s'.heap (frs (X.env::X.outer)++[x,T])) (X.env::X.outer) x (.ref C) a0 h6/\h5.UpToSlots h6) fl5 fun h6 fl6 us6=>⟨h6,rfl,fl6,us6⟩)) (fun _ s4 z=>?_) fun _ _ z=>z.1;obtain⟨⟨h6,rfl,fl6,us6⟩,dk⟩:=z;have J6:=I.landed (t':=s'.toks) p1 r1 u1 u2 p2 r2 p3 r3 p4 r4 (hst▸fl6.1) (us45.trans us6);obtain⟨oe6,vs6,_,_,_,he6,⟨hcl6,_⟩,hv6,_⟩:=fl6.2.2.2;obtain⟨o7,e7,d7⟩:=dc.kp dk;have e76:o7=oe6:=GB (e7.symm.trans he6);have J7:=J6.trackN (od:=od) p1 u1 p2 p3 p4 he6 hcl6 (by rw[<-e76];exact d7) hv6;refine oY (v:=.ref x) J7 hN hi (.inl hl) rfl (fun s8 J8=>?_) (.inr hl);refine Gy (hs x pins _ _ _ (D.gone i) (J8.marked x) q) (fun f s9 hq=>?_) (fun _ _ z=>False.elim z);exact B7 hN hi hl I.ok.kind (hq.unmarked I.ok)
def Em(K:Frag)(mg:Str->Option Value)(N:Nat)(tb:XK->TS)(c:Str)(m:Nat)(t1:TS):TS:=fun D σ H=>tb (fun cls od H2=>∃C,cls=.ref C/\A7 K mg c C/\
 ∀(x:Addr)(σ':St),σ'.length=N->H2 x=none->t1 (D.gone m) (σ'.set m (some (.ref x))) (upd H2 x (XN x C od))) D σ H
theorem Bz{m L:Nat}{c nx:Str}{p1 q1 pos:Pos}{body:List Stmt}{b1:Stmt}{su1:List Stmt}{tb:XK->TS}{t1:TS}(hN:X.N.Nodup)(hn:X.N[m]?=some nx)(hl:X.env.kindOf nx=some .local)
  (hb:∀pins W,PSs (X.triedN pins W) body (tb W)) (h1:∀z,PSs (X.marked z) (b1::su1) t1)
  (hst:X.stack=X.env::X.outer:=by rfl) (hf:X.env.frame=some L:=by rfl) (hex:X.ex=[]:=by rfl) (hg1:Gl X c:=by rfl) (hd1:(c==("__debug__":Str))=false:=by decide):
  PS X (.Try body [.ExceptHandler (some (.Name c p1)) (some nx) (b1::su1) q1] [] [] pos) (Em X.K X.mg X.N.length tb c m t1):=by
 intro pins s σ H DD I h;refine wpAny_Try_except (Gy (hb pins _ [] s σ H DD (I.triedN _) h) (fun f s1 q=>?_) fun e s1 q=>?_)
 ·have q':=SP.untriedN q;cases f with
  |next=>exact wpAny_execs_nil q'
  |brk=>exact q'
  |cont=>exact q'
  |ret u=>exact q'
 ·obtain⟨x,C,T,σ',H2,s2,H',a0,od,rfl,I2,n1,n2,J,t,u1,u2,dc,C2,ec,Z,q⟩:=q;cases ec;have fl:=ue J t;rw[hst]at fl;refine Gy ((jT _ _).any (wpAny_looks_onW (Q:=fun _ s4=>∃h4,s4={s1 with heap:=h4}/\Heap.HeldW (PySem.W.hideAll s1.heap (frs (X.env::X.outer)++[x,T])) (X.env::X.outer) x (.ref C) a0 L h4/\s1.heap.UpToSlots h4) (outer:=X.outer) (by rw[J.ok.frames,hst]) hf fl fun h4 held us4=>⟨h4,rfl,held,us4⟩)) (fun _ s4 z=>?_) fun _ _ z=>z.1;obtain⟨⟨h4,rfl,held,us4⟩,dk4⟩:=z;refine Gy ((cQ _ _).any (wpAny_landsW (Q:=fun _ s5=>∃h5,s5={s1 with heap:=h5}/\Heap.FlyingW (PySem.W.hideAll s1.heap (frs (X.env::X.outer)++[x,T])) (X.env::X.outer) x (.ref C) a0 h5/\h4.UpToSlots h5) held fun h5 fl5 us5=>⟨h5,rfl,fl5,us5⟩)) (fun _ s5 z=>?_) fun _ _ z=>z.1;obtain⟨⟨h5,rfl,fl5,us5⟩,dk5⟩:=z;exact yI hst hex hN hn hl I2 n1 n2 J u1 u2 fl5 (us4.trans us5) ((dc.kp dk4).kp dk5) Z h1 (q x σ' J.len u1) hg1 hd1
def Et(K:Frag)(ta:TE)(f:Str):TE:=fun σ H Q=>ta σ H fun x H1=>∃a C dx fs v,x=.ref a/\H1 a=some (XN a C (some dx))/\H1 dx=some (XD dx fs)/\RdX K C f/\fs.lookup f=some v/\Q v H1
theorem xy{K:Frag}{e:Expr}{f:Str}{pos:Pos}{ta:TE}(hK:X.K=K)(he:PE X e ta)(hb:attributeBase e f X.env (eval e X.env)=eval e X.env:=by rfl):PE X (.Attribute e f pos) (Et K ta f):=by
 subst hK;intro pins s σ H Q I h;refine xZ hb (thn (he pins s σ H _ I h) fun u s1 hPz=>?_);obtain⟨x,H1,I1,rx,a,C,dx,fs,v,ex,hx,hd,R,l,q⟩:=hPz;subst ex;obtain rfl:u=Value.ref a:=rx;obtain⟨o,vs,e1,e2,e3,e4⟩:=(I1.hok a _ hx).1;obtain⟨mA,n0,r0,w0⟩:=(I1.hok dx _ hd).1;obtain⟨u',hu,ru⟩:=gY.some_of (v:=v) (o:=mA f) (by rw[<-l];exact r0 f);have nc:PySem.W.notCls o=true:=by obtain⟨c,d,dt,sl⟩:=o;cases e4;rfl
 obtain⟨hp,g,d,tk,os⟩:=s1;exact PySem.W.FQ I1.kIn e1 e2 nc e3 n0 hu R.pl R.ga R.gt R.na (PySem.W.handedOut_of (sk ru)) ⟨v,H1,I1.tok _,ru,q⟩
end
structure FW(K:Frag)(mg:Str->Option Value)(c:Str)(L:Addr)(m:Str)(f:Addr):Prop where
 mg:mg c=some (.ref L)
 rd:PySem.W.readsIn K L (.type "type")=true
 sp:PySem.W.specialIn K (.ref L) "__getattribute__"=some (some (.builtin "type.__getattribute__"))
 fc:PySem.W.findCls K (.ref L) (.type "type") m=some (.val (.ref f))
 kp:keepIn K (.ref f)=true
section
variable{X:Cx}{CX:CXT}{k:Nat}{f C:Addr}{fd:FuncData}{ps:List Str}{sp:Sp}{dvs:List V}{ds:List Value}{E:XK}{c m:Str}{L:Addr}{np pos apos:Pos}{e o:Expr}{es:List Expr}{ta:TE}{t:TA}
theorem BJ{pl:Sem Bool}(Z:FW X.K X.mg c L m f)(F:ji X.prog X.w X.K X.mg X.base CX k f fd ps sp)(hr:cb k X.A)(hb:Binds X.K fd ps ds)(hd:Vals dvs ds)(hx:Passes CX X E)(ha:PA X (e::es) t)(hg:Gl X c:=by rfl)(hdb:(c==("__debug__":Str))=false:=by decide)
  (hst:starEach (e::es) X.env=(false,eval e X.env)::starEach es X.env:=by rfl) (hpl:(backTo pos (starEach es X.env)).any (·.1)=false:=by rfl)
  (ht:eval (.Call (.Attribute (.Name c np) m apos) (e::es) [] pos) X.env=(do
   let ov <-eval (.Name c np) X.env
   standAt apos.atName
   let (f,first) <-holding [ov] (getMethod ov m pl)
   callWith pos f first (backTo pos (starEach (e::es) X.env)) (backToKw pos (keywordEach [] X.env))):=by rfl):
  PE X (.Call (.Attribute (.Name c np) m apos) (e::es) [] pos) (kg sp dvs E t):=by
 intro pins s σ H Q I h;refine PySem.W.methodCall_KW (pl:=pl) (thn (iU (v:=.ref L) hg Z.mg rfl hdb pins s σ H (fun x H1=>x=.ref L/\H1=H) I ⟨rfl,rfl⟩) fun u s1 hPz=>?_) ht;obtain⟨x,H1,I1,rx,ex,eH⟩:=hPz;subst ex eH;obtain rfl:u=Value.ref L:=rx;refine PySem.W.method_cls I1.kIn Z.sp (PySem.W.cls_value I1.kIn Z.rd Z.fc rfl ?_);refine PySem.W.callWith_K (first:=[]) (h₀:=X.base) I.ok.mod.kin Z.kp (thn (ha pos pins _ σ _ _ (I1.tok _) h) fun us s2 hPz=>L2.ep3 hPz fun vs H2 I2 r q2=>⟨I2.kIn,?_⟩) hst hpl;exact wd (us:=us) (vs:=vs) F hr hb hd hx I2 r q2
end
structure TxM(K:Frag)(C:Addr)(m qual:Str)(st:Stmt)(ps:List Str)(ds:List Value):Prop where
 ex:∃(f:Addr)(oc:Value)(od:Option Addr)(osl:Array (Option Value))(dV kV doc pm:Value)(an:Option Addr)(cdv ct:Value),
  K.lookup f=some ⟨oc,od,.func (fnOf m qual (cD st) (bB st) (aq st) dV kV doc pm an cdv ct),osl⟩/\codeIn K cdv qual=true/\Meth K C m f/\
  Binds K (fnOf m qual (cD st) (bB st) (aq st) dV kV doc pm an cdv ct) ps []/\Binds K (fnOf m qual (cD st) (bB st) (aq st) dV kV doc pm an cdv ct) ps ds
structure DfT(P:Program)(w:World)(K:Frag)(mg:Str->Option Value)(base:Heap)(CX:CXT)(k:Nat)(C:Addr)(m:Str)(ps:List Str)(sp:Sp)(ds:List Value):Prop where
 ex:∃f fd,ji P w K mg base CX k f fd ps sp/\Binds K fd ps []/\Binds K fd ps ds/\Meth K C m f
section
variable{P:Program}{w:World}{K:Frag}{mg:Str->Option Value}{base:Heap}{CX:CXT}{k j:Nat}{C C':Addr}{m qual:Str}{st:Stmt}{N ps:List Str}{sp:Sp}{ds:List Value}
theorem DfT.under(D:DfT P w K mg base CX k C m ps sp ds)(e:findIn K (.ref C') m=findIn K (.ref C) m):DfT P w K mg base CX k C' m ps sp ds:=by obtain⟨f,fd,F,b1,b2,M⟩:=D.ex;exact⟨f,fd,F,b1,b2,⟨e.trans M.at_,M.fn,M.kp⟩⟩
theorem TxM.df(T:TxM K C m qual st ps ds)(S:aD N ps (aq st))(len:∀vs H Q E,sp vs H Q E->vs.length=ps.length)
  (hbody:∀(f:Addr)(cdv:Value)(A:Around)(outer:List Env)(s:Shared)(H:Hp)(vs:List V)(Q:VK)(E:XK),cb k (A.deeper (envOfC qual (aq st) s.heap.objs.size f cdv))->sp vs H Q E->
   ∃t,PSs (cT CX0 P w K mg base N qual (aq st) f cdv A outer s H E).nox (bB st) t/\t {nx:=fun _ H'=>Q .non H',rt:=Q} (start N vs) H):DfT P w K mg base CX0 (k+1) C m ps sp ds:=by
 obtain⟨f,oc,od,osl,dV,kV,doc,pm,an,cdv,ct,l,c,M,b1,b2⟩:=T.ex;refine⟨f,_,vq l c S len fun A outer s H vs Q E hr hsp=>?_,b1,b2,M⟩;obtain⟨t,h,q⟩:=hbody f cdv A outer s H vs Q E hr hsp;exact⟨t,h.nox,q⟩
theorem TxM.dfN(T:TxM K C m qual st ps ds)(S:aD N ps (aq st))(len:∀vs H Q E,sp vs H Q E->vs.length=ps.length)
  (hbody:∀(f:Addr)(cdv:Value)(A:Around)(outer:List Env)(s:Shared)(H:Hp)(vs:List V)(Q:VK)(E:XK),cb k (A.deeper (envOfC qual (aq st) s.heap.objs.size f cdv))->sp vs H Q E->
   ∃t,PSs (cT (CXn P w) P w K mg base N qual (aq st) f cdv A outer s H E) (bB st) t/\t {nx:=fun _ H'=>Q .non H',rt:=Q} (start N vs) H):DfT P w K mg base (CXn P w) (k+1) C m ps sp ds:=by
 obtain⟨f,oc,od,osl,dV,kV,doc,pm,an,cdv,ct,l,c,M,b1,b2⟩:=T.ex;exact⟨f,_,vq l c S len fun A outer s H vs Q E hr hsp=>hbody f cdv A outer s H vs Q E hr hsp,b1,b2,M⟩
theorem mI{f:Addr}{oc:Value}{od an:Option Addr}{osl:Array (Option Value)}{kV doc pm cdv ct:Value}(a:findIn K (.ref C) m=some (some (.ref f)))(fn:PySem.W.isFn K (.ref f)=true)
  (l:K.lookup f=some ⟨oc,od,.func (fnOf m qual (cD st) (bB st) (aq st) .none kV doc pm an cdv ct),osl⟩) (c:codeIn K cdv qual=true) (k:keepIn K (.ref f)=true)
  (hb:∀(kV doc pm:Value)(an:Option Addr)(cdv ct:Value)(us:List Value),us.length=ps.length->bindArgs (fnOf m qual (cD st) (bB st) (aq st) .none kV doc pm an cdv ct) ⟨us,[]⟩=pure (ps.zip us)):TxM K C m qual st ps []:=
 have b:=(qk (x:=m) (qual:=qual) (st:=st) l c k).binds hb
 ⟨f,oc,od,osl,.none,kV,doc,pm,an,cdv,ct,l,c,⟨a,fn,k⟩,b,b⟩
theorem xj{f:Addr}{oc:Value}{od an:Option Addr}{osl:Array (Option Value)}{dV kV doc pm cdv ct:Value}(a:findIn K (.ref C) m=some (some (.ref f)))(fn:PySem.W.isFn K (.ref f)=true)
  (l:K.lookup f=some ⟨oc,od,.func (fnOf m qual (cD st) (bB st) (aq st) dV kV doc pm an cdv ct),osl⟩) (c:codeIn K cdv qual=true) (k:keepIn K (.ref f)=true)
  (b1:∀us:List Value,us.length=ps.length->∀S,PySem.W.peek K S (bindArgs (fnOf m qual (cD st) (bB st) (aq st) dV kV doc pm an cdv ct) ⟨us,[]⟩)=some (ps.zip us))
  (b2:∀us:List Value,(us++ds).length=ps.length->∀S,PySem.W.peek K S (bindArgs (fnOf m qual (cD st) (bB st) (aq st) dV kV doc pm an cdv ct) ⟨us,[]⟩)=some (ps.zip (us++ds))):TxM K C m qual st ps ds:=by
 refine⟨f,oc,od,osl,dV,kV,doc,pm,an,cdv,ct,l,c,⟨a,fn,k⟩,fun s us X' hl=>?_,fun s us X' hl=>PySem.W.kp_binds X' (b2 us hl)⟩;rw[GF]at hl ⊢;exact PySem.W.kp_binds X' (b1 us hl)
end
section
variable{X:Cx}{CX:CXT}{k:Nat}{C:Addr}{ps:List Str}{sp:Sp}{dvs:List V}{ds:List Value}{E:XK}{c m:Str}{L:Addr}{np pos apos:Pos}{e o:Expr}{es:List Expr}{ta:TE}{t:TA}
def De(X:Cx)(CX:CXT)(k:Nat)(m:Str)(ps:List Str)(dvs:List V)(ds:List Value)(E:XK)(ta:TE)(t:TA):TE:=fun σ H Q=>ta σ H fun x H1=>∃a C dx fs sp,x=.ref a/\H1 a=some (.ins C dx fs)/\Cls X.K C/\DfT X.prog X.w X.K X.mg X.base CX k C m ps sp ds/\fs.lookup m=none/\
 t σ H1 fun vs H2=>sp (x::(vs++dvs)) H2 Q E
theorem jD{pl:Sem Bool}(ps:List Str)(k:Nat)(he:PE X o ta)(hr:cb k X.A)(hd:Vals dvs ds)(hx:Passes CX X E)(ha:PA X (e::es) t)
  (hst:starEach (e::es) X.env=(false,eval e X.env)::starEach es X.env:=by rfl) (hpl:(backTo pos (starEach es X.env)).any (·.1)=false:=by rfl)
  (ht:eval (.Call (.Attribute o m apos) (e::es) [] pos) X.env=(do
   let ov <-eval o X.env
   standAt apos.atName
   let (f,first) <-holding [ov] (getMethod ov m pl)
   callWith pos f first (backTo pos (starEach (e::es) X.env)) (backToKw pos (keywordEach [] X.env))):=by rfl):
  PE X (.Call (.Attribute o m apos) (e::es) [] pos) (De X CX k m ps dvs ds E ta t):=by
 intro pins s σ H Q I h;refine PySem.W.methodCall_KW (pl:=pl) (thn (he pins s σ H _ I h) fun u s1 hPz=>?_) ht;obtain⟨x,H1,I1,rx,a,C,dx,fs,sp,ex,ea,c,D,l,q⟩:=hPz;subst ex;obtain rfl:u=Value.ref a:=rx;obtain⟨f,fd,F,_,b,hm⟩:=D.ex;refine wO I1 ea c hm l ?_;refine PySem.W.callWith_K (first:=[.ref a]) (h₀:=X.base) I.ok.mod.kin hm.kp (thn (ha pos pins s1 σ H1 _ I1 q) fun us s2 hPz=>L2.ep3 hPz fun vs H2 I2 r q2=>⟨I2.kIn,?_⟩) hst hpl;exact wd (us:=.ref a::us) (vs:=.ref a::vs) F hr b hd hx I2 (.cons rfl r) q2
structure MkC(K:Frag)(mg:Str->Option Value)(c:Str)(C:Addr):Prop where
 mg:mg c=some (.ref C)
 makes:PySem.W.makesIn K C=true
 kp:keepIn K (.ref C)=true
structure CI(K:Frag)(mg:Str->Option Value)(c:Str)(L:Addr)(m:Str):Prop where
 mg:mg c=some (.ref L)
 rd:PySem.W.readsIn K L (.type "type")=true
 sp:PySem.W.specialIn K (.ref L) "__getattribute__"=some (some (.builtin "type.__getattribute__"))
 fc:∃f,findIn K (.ref L) m=some (some (.ref f))/\PySem.W.findCls K (.ref L) (.type "type") m=some (.val (.ref f))
theorem zT{j:Nat}{pl:Sem Bool}(Z:CI X.K X.mg c L m)(D:DfT X.prog X.w X.K X.mg X.base CX0 j L m ps sp [])(hr:cb k X.A)(ha:PA X (e::es) t)(hg:Gl X c:=by rfl)(hj:j<=k:=by decide)(hdb:(c==("__debug__":Str))=false:=by decide)
  (hst:starEach (e::es) X.env=(false,eval e X.env)::starEach es X.env:=by rfl) (hpl:(backTo pos (starEach es X.env)).any (·.1)=false:=by rfl)
  (ht:eval (.Call (.Attribute (.Name c np) m apos) (e::es) [] pos) X.env=(do
   let ov <-eval (.Name c np) X.env
   standAt apos.atName
   let (f,first) <-holding [ov] (getMethod ov m pl)
   callWith pos f first (backTo pos (starEach (e::es) X.env)) (backToKw pos (keywordEach [] X.env))):=by rfl):
  PE X (.Call (.Attribute (.Name c np) m apos) (e::es) [] pos) (tCF sp t):=by
 obtain⟨f,fd,F,b,_,hm⟩:=D.ex;obtain⟨f',e1,e2⟩:=Z.fc;obtain rfl:f'=f:=Value.ref.inj (GB (GB (e1.symm.trans hm.at_)));have h:=BJ (dvs:=[]) (ds:=[]) (E:=E0) (pl:=pl) ⟨Z.mg,Z.rd,Z.sp,e2,hm.kp⟩ F (hr.mono hj) b .nil nQ ha hg hdb hst hpl ht;have e3:kg sp [] E0 t=tCF sp t:=by funext σ H Q;unfold kg tCF;simp only[GF]
 rw[e3]at h;exact h
end
section
variable{K:Frag}{h:Heap}{mg:Str->Option Value}{c m:Str}{C f:Addr}
theorem two_eq{α:Type}{a b d:α}(x:a=d)(y:b=d):a=b:=x.trans y.symm
theorem DG(X:K.In h)(G:h.Ns mainGlobals mg)(a:nsIn K mainGlobals c=some (some (.ref C)))(b:PySem.W.makesIn K C=true)(d:keepIn K (.ref C)=true):MkC K mg c C:=⟨HD X G a,b,d⟩
theorem Ct(X:K.In h)(G:h.Ns mainGlobals mg)(a:nsIn K mainGlobals c=some (some (.ref C)))(rd:PySem.W.readsIn K C (.type "type")=true)
 (sp:PySem.W.specialIn K (.ref C) "__getattribute__"=some (some (.builtin "type.__getattribute__"))) (fi:findIn K (.ref C) m=some (some (.ref f))) (fc:PySem.W.findCls K (.ref C) (.type "type") m=some (.val (.ref f))):CI K mg c C m:=⟨HD X G a,rd,sp,f,fi,fc⟩
theorem Ba(fi:findIn K (.ref C) "__init__"=some (some (.ref f)))(ok:PySem.W.jK K C PySem.W.vErr4 "ValueError.__new__" f=true):oq K C:=⟨f,ok⟩
theorem B0(X:K.In h)(G:h.Ns mainGlobals mg)(a:nsIn K mainGlobals c=some (some (.ref C)))(fi:findIn K (.ref C) "__init__"=some (some (.ref f)))(ok:PySem.W.jK K C PySem.W.vErr4 "ValueError.__new__" f=true)
 (mr:mroIn K C (.ref C)=some true):A7 K mg c C:=⟨⟨f,ok⟩,C,HD X G a,⟨f,ok⟩,mr⟩
end
theorem rp:entryFor table "proto.unchain"=some Builtin.«proto.unchain»:=entryFor_of_tree (by kernel_rfl)
section
variable{prog:Program}{w:World}{A:Around}{E:Value->Shared->Prop}{env:Env}{s:Shared}
theorem j9{α:Type}{x y:Addr}{ox oy:Obj}{vx vy:Array Value}{Q:α->Shared->Prop}(hh:A.handled=some (.ref y))(ne:y≠x)
  (hy:s.heap.get? y=some oy) (hyd:oy.data=.fields vy) (hy2:vy[2]?=some .none) (hx:s.heap.get? x=some ox) (hxd:ox.data=.fields vx) (hxs:2<vx.size)
  (h:E (.ref x) {s with heap:=s.heap.update x (Obj.mapFields (·.setIfInBounds 2 (.ref y)))}):wpAny (model prog w) A (raiseNew (.ref x):Sem α) Q E s:=by
 unfold raiseNew;refine FZ (wpAny_handled ?_);rw[hh];dsimp only;have nb:(Value.ref y != Value.ref x)=true:=by rw[bne_iff_ne];exact fun z=>ne (Value.ref.inj z)
 rw[F8 nb];refine FZ (G9 (wpAny_runValue (codeAny_builtin rp ?_)));unfold Builtin.«proto.unchain»;dsimp only;refine FZ (wpAny_field hy hyd hy2 ?_);rw[F8 (by decide)];refine F3 ?_;dsimp only;unfold updateField;refine FZ (FZ (wpAny_load hx ?_));rw[hxd];dsimp only;rw[F8 hxs];refine wpAny_update hx ?_;exact wpAny_throw h
end
section
variable{M:Model}{A:Around}{E:Value->Shared->Prop}{s:Shared}
theorem yr{base:Heap}{env:Env}{outer:List Env}{L e:Addr}{oe:Obj}{vs:Array Value}{a0:Value}{Q:Unit->Shared->Prop}
  (hfr:A.frames=some (env::outer)) (hl:s.heap.FunFrames base (env::outer)) (hf:env.frame=some L)
  (he:s.heap.get? e=some oe) (hkb:base.StaysIn s.heap) (hen:base.get? e=none) (hd:oe.data=.fields vs) (h1:vs[1]?=some .none) (h0:vs[0]?=some a0)
  (h:∀h',Heap.NotedW base (env::outer) e oe.cls a0 (rawInt L) s.heap h'->Q () {s with heap:=h'}):wpAny M A (noteFrame (.ref e) env) Q E s:=by
 unfold noteFrame;simp only[hf];refine FZ (wpAny_field he hd h1 ?_);rw[F6 (by decide)];exact wpAny_entryW hfr hl hf he hkb hen hd (Array.getElem?_eq_some_iff.mp h1).1 h0 h
theorem AH{base:Heap}{l:List Env}{e L:Addr}{cls a0 fl:Value}{Q:Unit->Shared->Prop}
  (hkb:base.StaysIn s.heap) (hl:s.heap.FunFrames base l) (ht:s.heap.TracedAtW base e cls a0 fl)
  (h:∀h',base.StaysIn h'->h'.FunFrames base l->h'.TracedAtW base e cls a0 (rawInt L)->(∀b o,s.heap.get? b=some o->(∀vs,o.data≠ .fields vs)->h'.get? b=some o)->Q () {s with heap:=h'}):
  wpAny M A (setFlight (.ref e) (some L)) Q E s:=by
 obtain⟨oe,vs,T,oT,ts,he,hcls,hd,h1,hnT,hTe,hT,hdT,h3⟩:=ht;have hsz3:3<ts.size:=(Array.getElem?_eq_some_iff.mp h3).1;have other:∀b,b≠T->(s.heap.update T (Obj.mapFields (·.setIfInBounds 3 ((some L).elim Value.none fun f=>rawInt f)))).get? b=s.heap.get? b:=
  fun b hb=>GW _ _ (Hg hb)
 have noRecord:∀b o,s.heap.get? b=some o->(∀vs,o.data≠ .fields vs)->b≠T:=fun b o hb hnf q=>by rw[q,hT]at hb;injection hb with hb;subst hb;exact hnf ts hdT
 unfold setFlight;refine FZ (wpAny_field he hd h1 ?_);rw[F8 (show(Value.ref T != Value.none)=true from by simp)];refine wpAny_setField hT hdT hsz3 (h _ (fun b o hbo=>(other b fun q=>by rw[q,hnT]at hbo;cases hbo).trans (hkb b o hbo)) (hl.of_keeps fun b o hb hnf=>⟨o,(other b (noRecord b o hb hnf)).trans hb,rfl⟩) ?_ fun b o hb hnf=>(other b (noRecord b o hb hnf)).trans hb);exact⟨oe,vs,T,_,_,(other e (Hg hTe)).trans he,hcls,hd,h1,hnT,hTe,G3 _ hT (Obj.isFreed_of_fields (Obj.data_mapFields hdT _)),Obj.data_mapFields hdT _,by simp[hsz3]⟩
theorem vv{base:Heap}{env:Env}{outer:List Env}{L e y:Addr}{oe:Obj}{vs:Array Value}{a0:Value}{Q:Value->Unit->Shared->Prop}{E1:Value->Value->Shared->Prop}
  (hfr:A.frames=some (env::outer)) (hl:s.heap.FunFrames base (env::outer)) (hf:env.frame=some L)
  (he:s.heap.get? e=some oe) (hkb:base.StaysIn s.heap) (hen:base.get? e=none) (hd:oe.data=.fields vs) (h1:vs[1]?=some .none) (h0:vs[0]?=some a0)
  (h:∀h',Heap.LeftW base (env::outer) e oe.cls a0 s.heap h'->DKp s.heap h'->Q (.ref e) () {s with heap:=h'}):
  notedBy M (A.mark (some (.ref y))) env (cameBackBy M A env fun e' s'=>wpAny M A (leaving env e') (Q e') (E1 e') s') (.ref e) s:=by
 have keep:∀{t:Sem Unit}{A':Around}{E':Value->Shared->Prop}{Q':Unit->Shared->Prop}{s':Shared}{R:Heap->Prop},bH t->wpAny M A' t (fun _ s4=>∃h',s4={s' with heap:=h'}/\R h') (fun _ _=>False) s'->
   (∀h',R h'->DKp s'.heap h'->Q' () {s' with heap:=h'})->wpAny M A' t Q' E' s':=fun {t A' E' Q' s' R} m hw hk=>by
  refine Gy (m.any hw) (fun _ s4 z=>?_) fun _ _ z=>z.1.elim;obtain⟨⟨h',rfl,r⟩,dk⟩:=z;exact hk h' r dk
 refine keep (R:=fun h'=>Heap.NotedW base (env::outer) e oe.cls a0 (rawInt L) s.heap h') (jT _ _) (yr hfr hl hf he hkb hen hd h1 h0 fun h' n=>⟨h',rfl,n⟩) fun h1 ⟨a1,a2,a3,a4⟩ d1=>?_;unfold cameBackBy;obtain⟨oe1,vs1,T,oT,ts,b1,b2,b3,b4,b5⟩:=id a3;refine FZ (wpAny_field b1 b3 b4 ?_);rw[F6 (by simp),hf];refine keep (R:=fun h'=>base.StaysIn h'/\h'.FunFrames base (env::outer)/\h'.TracedAtW base e oe.cls a0 (rawInt L)/\(∀b o,h1.get? b=some o->(∀vs,o.data≠ .fields vs)->h'.get? b=some o)) (cQ _ _)
  (AH (s:={s with heap:=h1}) a1 a2 a3 fun h' k1 k2 k3 k4=>⟨h',rfl,k1,k2,k3,k4⟩) fun h2 ⟨c1,c2,c3,c4⟩ d2=>?_
 refine keep (R:=fun h'=>base.StaysIn h'/\h'.FunFrames base (env::outer)/\h'.TracedW base e oe.cls a0/\(∀b o,h2.get? b=some o->(∀vs,o.data≠ .fields vs)->h'.get? b=some o)) (fw _ _) ?_ fun h3 ⟨f1,f2,f3,f4⟩ d3=>?_
 ·unfold leaving;refine FZ (wpAny_noteFrame_againW hf c3 ?_);exact wpAny_setFlight_noneW (s:={s with heap:=h2}) c1 c2 c3 fun h' k1 k2 k3 k4=>⟨h',rfl,k1,k2,k3,k4⟩
 ·refine h h3 ⟨f1,f2,f3,fun b o hb hn=>?_⟩ ((d1.trans d2).trans d3);obtain⟨sl,q⟩:=a4 b o hb hn;exact⟨sl,f4 b _ (c4 b _ q hn) hn⟩
end
noncomputable def XC(y:Addr):HO:=.ext fun h=>CtN h y
noncomputable abbrev Cx.markedX(X:Cx)(y:Addr):Cx:={X with A:=X.A.mark (some (.ref y)),calm:=false,xe:=notedBy (model X.prog X.w) (X.A.mark (some (.ref y))) X.env (cameBackBy (model X.prog X.w) X.A X.env X.xe)}
section
variable{X:Cx}{pins:List (Addr×Obj)}{σ:St}{H:Hp}{s:Shared}{x:Addr}
theorem Inv.markedX(I:Inv X pins σ H s)(x:Addr):Inv (X.markedX x) pins σ H s:=
 ⟨⟨I.ok.mod,I.ok.kind,I.ok.glob,I.ok.blt,I.ok.above,I.ok.inj,I.ok.has,I.ok.cab,(fun z=>by cases z),I.ok.frames,I.ok.stk,I.ok.exf,I.ok.bs,I.ok.bsz,I.ok.noex,I.ok.exfs,I.ok.funs,I.ok.frf⟩,I.os,I.bare,I.base,I.loc,I.cell,I.free,I.freeC,I.pin,I.hok,I.len⟩
theorem Inv.unmarkedX(ok:X.Ok)(I:Inv (X.markedX x) pins σ H s):Inv X pins σ H s:=⟨ok,I.os,I.bare,I.base,I.loc,I.cell,I.free,I.freeC,I.pin,I.hok,I.len⟩
theorem SP.unmarkedX{D:Ends}{f:Flow}{s':Shared}(ok:X.Ok)(h:SP (X.markedX x) pins D f s'):SP X pins D f s':=by
 cases f with
 |next=>obtain⟨σ',H',I,q⟩:=h;exact⟨σ',H',I.unmarkedX ok,q⟩
 |brk=>obtain⟨σ',H',I,q⟩:=h;exact⟨σ',H',I.unmarkedX ok,q⟩
 |cont=>obtain⟨σ',H',I,q⟩:=h;exact⟨σ',H',I.unmarkedX ok,q⟩
 |ret u=>obtain⟨v,σ',H',I,r,q⟩:=h;exact⟨v,σ',H',I.unmarkedX ok,r,q⟩
theorem Inv.trackC(I:Inv X pins σ H s)(n1:X.s₀.heap.get? x=none)(u1:H x=none)(p2:∀p∈X.pn++pins,p.1≠x)(p3:∀y c,X.env.cells.lookup y=some c->c≠x)(p4:x≠X.env.locals)(ct:CtN s.heap x):Inv X pins σ (upd H x (XC x)) s:=by
 have nx:∀b u,H b=some u->b≠x:=fun b u e z=>by rw[z,u1]at e;cases e
 refine⟨I.ok,I.os,I.bare,⟨I.base.keep,I.base.slot,fun b o' e1 n hx=>?_,I.base.there,fun b xs e1=>?_,fun b o' u e1=>?_,fun b ps e1=>?_⟩,I.loc,I.cell,?_,fun y c e1=>?_,fun p hp=>?_,fun b u e1=>?_,I.len⟩
 ·rw[az (fun z=>by rw[z,n1]at e1;cases e1)];exact I.base.free b o' e1 n hx
 ·have q:=I.base.tups b xs e1;rw[az (nx b _ q)];exact q
 ·have q:=I.base.frzs b o' u e1;rw[az (nx b _ q)];exact q
 ·obtain⟨more,q⟩:=I.base.tbls b ps e1;exact⟨more,by rw[az (nx b _ q)];exact q⟩
 ·rw[az (Hg p4)];exact I.free
 ·rw[az (p3 y c e1)];exact I.freeC y c e1
 ·obtain⟨a1,a2,a3⟩:=I.pin p hp;exact⟨a1,by rw[az (p2 p hp)];exact a2,a3⟩
 ·by_cases hb:b=x
  ·subst hb;rw[af]at e1;cases e1;obtain⟨o,vs,e,r⟩:=id ct;exact⟨ct,⟨o,e⟩,fun h1 h2 ⟨o1,v1,f1,f2⟩ k=>⟨o1,v1,k o1 f1,f2⟩⟩
  ·rw[az hb]at e1;refine(I.hok b u e1).stay (fun _ _ _ q=>q) (fun c q=>?_) fun c xs q=>?_
   ·rw[az (nx c _ q)];exact q
   ·rw[az (nx c _ q)];exact q
end
section
variable{P:Program}{w:World}{K:Frag}{mg:Str->Option Value}{base:Heap}{N:List Str}{qual:Str}{scope:Scope}{f:Addr}{cd:Value}{A:Around}{outer:List Env}{s:Shared}{H:Hp}{E:XK}
 {pins:List (Addr×Obj)} {σ:St}
theorem uz{x C y:Addr}{od:Option Addr}{H1:Hp}{s1:Shared}(I:Inv (cT (CXn P w) P w K mg base N qual scope f cd A outer s H E) pins σ H1 s1)(hx:H1 x=some (XO x C od))(h0:H x=none)(ee:E (.ref C) od (jf H1 x)):
  ((cT (CXn P w) P w K mg base N qual scope f cd A outer s H E).markedX y).xe (.ref x) {s1 with heap:=s1.heap.update x (Obj.mapFields (·.setIfInBounds 2 (.ref y)))}:=by
 obtain⟨t0,ht0⟩:=(I.hok x _ hx).1;have I1:=I.untrackO hx;have p1:s.heap.get? x=none:=I.new rfl hx h0;have p2:∀p∈(cT (CXn P w) P w K mg base N qual scope f cd A outer s H E).pn++pins,p.1≠x:=fun p hp z=>by have:=(I.pin p hp).2.1;rw[z,hx]at this;cases this
 have p3:∀y c,(cT (CXn P w) P w K mg base N qual scope f cd A outer s H E).env.cells.lookup y=some c->c≠x:=fun y c e z=>by have:=I.freeC y c e;rw[z,hx]at this;cases this
 have p4:x≠(cT (CXn P w) P w K mg base N qual scope f cd A outer s H E).env.locals:=fun z=>by have:=I.free;rw[<-z,hx]at this;cases this
 have he:(s1.heap.update x (Obj.mapFields (·.setIfInBounds 2 (.ref y)))).get? x=some {cls:=.ref C,dict:=od,data:=.fields #[.ref t0,.none,.ref y,.none,.bool false,.none]}:=G3 _ ht0 rfl;have oth:∀b o,s1.heap.get? b=some o->(∀vs,o.data≠ .fields vs)->(s1.heap.update x (Obj.mapFields (·.setIfInBounds 2 (.ref y)))).get? b=some o:=fun b o e hn=>by rw[GW _ _ (fun z=>by subst z;rw[ht0]at e;cases e;exact hn _ rfl)];exact e
 refine vv (Q:=fun e' _ s''=>CXn P w outer H s E e' s'') (E1:=fun _ e' s''=>CXn P w outer H s E e' s'') (s:={s1 with heap:=s1.heap.update x (Obj.mapFields (·.setIfInBounds 2 (.ref y)))}) (base:=PySem.W.hideAll s1.heap (frs (envOfC qual scope s.heap.objs.size f cd::outer)++[x])) (outer:=outer) (oe:={cls:=.ref C,dict:=od,data:=.fields #[.ref t0,.none,.ref y,.none,.bool false,.none]}) (vs:= #[.ref t0,.none,.ref y,.none,.bool false,.none]) (a0:=.ref t0) I.ok.frames
  ((PySem.W.funFrames_hide I.stack fun env he a ha=>GC _ (List.mem_filterMap.mpr ⟨env,he,ha⟩)).of_keeps fun b o e hn=>⟨o,oth b o e hn,rfl⟩) rfl he
  (fun b o q=>?_) (HL _ (Gx _ (F2.mpr rfl))) rfl rfl rfl fun h' hL dk=>?_
 ·have e:=PySem.W.of_hideAll _ q;refine(GW _ _ fun z=>?_).trans e;subst z;rw[HL _ (Gx _ (F2.mpr rfl))]at q;cases q
 ·obtain⟨k1,k2,k3,k4⟩:=hL
  have J:Inv (cT (CXn P w) P w K mg base N qual scope f cd A outer s H E) pins σ (jf H1 x) {s1 with heap:=h',toks:=s1.toks}:=I1.flown (ch:=[x]) (fun b hb=>by
    rw[F2]at hb;subst hb;exact⟨p1,gV _ _,p4,p3,p2⟩)
   (fun b o hb hc e'=>k1 b o (PySem.W.hideAll_get _ e' fun z=>by
    rcases Gj.mp z with q|q
    ·exact hb q
    ·exact hc q)) (fun b o hb e'=>by
   obtain⟨_,o',ho,hnf⟩:=I.stack.mem hb;rw[e']at ho;cases ho
   exact k4 b o (oth b o e' hnf) hnf)
  obtain⟨T',t',q1,q2⟩:=gG I1 rfl rfl (as:=[x]) (fun b hb=>by rw[F2]at hb;subst hb;exact⟨p1,gV _ _⟩) (fun b hb=>by obtain⟨_,o,ho,nf⟩:=J.stack.mem hb;exact⟨o,ho,nf⟩) k3;exact⟨x,C,T',jf H1 x,_,od,rfl,J.os,J.bare,J.base,J.hok,p1,q1,gV _ _,q2,t',mH.kp ⟨_,he,rfl⟩ dk,ee⟩
end
section
variable{prog:Program}{w:World}{A:Around}{E:Value->Shared->Prop}{env:Env}{s:Shared}
theorem uP{x:Sem Value}{y:Addr}{Q:Flow->Shared->Prop}(hh:A.handled=some (.ref y))
  (h:wpAny (model prog w) A x (fun v s1=>∃e t d C tl N nm qn bs hd sn sub ab col dd k0 k1 k2 k3 k5,v=.ref e/\s1.heap.get? C=some (excClassObj nm qn C N bs tl hd sn sub ab col dd k0 k1 k2 k3 k5 "ValueError.__new__")/\tl.contains (.type "BaseException")=true/\
   s1.heap.get? e=some {cls:=.ref C,dict:=d,data:=.fields #[.ref t,.none,.none,.none,.bool false,.none]}/\y≠e/\CtN s1.heap y/\E (.ref e) {s1 with heap:=s1.heap.update e (Obj.mapFields (·.setIfInBounds 2 (.ref y)))}) E s):
  wpAny (model prog w) A (raiseStmt env (some x) none) Q E s:=by
 unfold raiseStmt;refine FZ (Gy h (fun v s1 h1=>?_) fun _ _ z=>z);obtain⟨e,t,d,C,tl,N,nm,qn,bs,hd,sn,sub,ab,col,dd,k0,k1,k2,k3,k5,rfl,hC,hb,he,ne,⟨oy,vy,hy,hyd,hy2⟩,hE⟩:=h1;have hcB:(Value.ref C::tl).contains (.type "BaseException")=true:=by rw[List.contains_cons,hb,Bool.or_true]
 obtain⟨hp,g,dr,tk,os⟩:=s1
 repeat (first|with_reducible refine G4 he ?_|with_reducible refine G4 hC ?_|(with_reducible refine wpAny_isSubtype_exc hC ?_;rw[hcB])|wp_step)
 exact j9 hh ne hy hyd hy2 he rfl (show 2<6 by decide) hE
end
section
variable{X:Cx}
def Fn(K:Frag)(y:Addr)(t:TE)(W:Addr->Value->Option Addr->Hp->Prop):TS:=fun _ σ H=>t σ H fun v H1=>∃x C od,v=.ref x/\H1 x=some (XO x C od)/\y≠x/\H1 y=some (XC y)/\oq K C/\W x (.ref C) od H1
theorem rS{y:Addr}{e:Expr}{t:TE}{pos:Pos}{W:Addr->Value->Option Addr->Hp->Prop}(he:PE (X.markedX y) e t)
  (hw:∀pins σ H1 s1 x C od,X.Ok->Inv (X.markedX y) pins σ H1 s1->H1 x=some (XO x C od)->W x (.ref C) od H1->(X.markedX y).xe (.ref x) {s1 with heap:=s1.heap.update x (Obj.mapFields (·.setIfInBounds 2 (.ref y)))}) (ok:X.Ok):
  PS (X.markedX y) (.Raise (some e) none pos) (Fn X.K y t W):=by
 intro pins s σ H D I h;rw[arm_exec_Raise];refine FZ (wpAny_standAt (uP (y:=y) rfl ?_));refine FZ (Gy (he pins s σ H _ I h) (fun v s1 z=>FZ (wpAny_standAt (F3 ?_))) fun _ _ z=>z);obtain⟨x,H1,I1,rv,a,C,od,rfl,hx,ne,hy,Z,q⟩:=z;cases rv;obtain⟨t0,ht0⟩:=(I1.hok a _ hx).1;obtain⟨tl,N,nm,qn,bs,hd,sn,sub,ab,col,dd,k0,k1,k2,k3,k5,hC,T,_⟩:=lj I1.kIn Z;exact⟨a,t0,od,C,tl,N,nm,qn,bs,hd,sn,sub,ab,col,dd,k0,k1,k2,k3,k5,rfl,hC,T.hasType rfl,ht0,ne,(I1.hok y _ hy).1,hw pins σ H1 s1 a C od ok I1 hx q⟩
end
section
variable{X:Cx}{pins:List (Addr×Obj)}{σ:St}{H:Hp}{s:Shared}{W:XK}
theorem su{x T C:Addr}{a0:Value}{H2 H':Hp}{s2 s':Shared}{h5:Heap}{c:Str}{cp hp:Pos}{b0:Stmt}{suite:List Stmt}{th:TS}{D:Ends}{rest:List ExceptHandler}(hst:X.stack=X.env::X.outer)(hex:X.ex=[])
  (I2:Inv X pins σ H2 s2) (n1:s2.heap.get? x=none) (n2:s2.heap.get? T=none) (I:Inv X pins σ H' s') (u1:H' x=none) (u2:H' T=none)
  (fl5:Heap.FlyingW (PySem.W.hideAll s'.heap (frs (X.env::X.outer)++[x,T])) (X.env::X.outer) x (.ref C) a0 h5) (us45:s'.heap.UpToSlots h5) (ct:CtN h5 x)
  (Z:Hit X.K X.mg c C) (hs:PSs (X.markedX x) (b0::suite) th) (q:th D σ (upd H' x (XC x))) (hg:Gl X c) (hdb:(c==("__debug__":Str))=false):
  wpAny (model X.prog X.w) X.A (handleBy (.ref x) X.env (.ExceptHandler (some (.Name c cp)) none (b0::suite) hp::rest)) (SP X pins D) X.xe {s' with heap:=h5}:=by
 obtain⟨p1,p2,p3,p4⟩:=I2.apart hex n1;obtain⟨r1,r2,r3,r4⟩:=I2.apart hex n2;obtain⟨C',Zc,hm⟩:=Z.ex;have J:=I.landed (t':=s'.toks) p1 r1 u1 u2 p2 r2 p3 r3 p4 r4 (hst▸fl5.1) us45;obtain⟨oe,he,hcl⟩:=fl5.there;obtain⟨tl,N,nm,qn,bs,hd,sn,sub,ab,col,dd,k0,k1,k2,k3,k5,mN,hC,_,_,_,hmr⟩:=iI J.kIn Z.ok;obtain⟨tl',N',nm',qn',bs',hd',sn',sub',ab',col',dd',j0,j1,j2,j3,j5,mN',hC',_,_,T',_⟩:=iI J.kIn Zc.ok;refine wpAny_handleBy_cons (codeAny_handlers_test (gx (X:=X.marked x) (J.marked x) hg Zc.mg ?_ hdb)) (by intro z;cases z);refine gU hC hC' he hcl (T'.hasType rfl) (hmr _ _ hm) ?_;refine codeAny_handlers_suite ?_;refine Gy ((cQ _ _).any (lands_againW (Q:=fun _ s4=>∃h6,s4={s' with heap:=h6}/\Heap.FlyingW (PySem.W.hideAll s'.heap (frs (X.env::X.outer)++[x,T])) (X.env::X.outer) x (.ref C) a0 h6/\h5.UpToSlots h6) fl5 fun h6 fl6 us6=>⟨h6,rfl,fl6,us6⟩)) (fun _ s4 z=>?_) fun _ _ z=>z.1;obtain⟨⟨h6,rfl,fl6,us6⟩,dk⟩:=z;have J6:=I.landed (t':=s'.toks) p1 r1 u1 u2 p2 r2 p3 r3 p4 r4 (hst▸fl6.1) (us45.trans us6);have J7:=J6.trackC p1 u1 p2 p3 p4 (ct.kp dk);exact Gy (hs pins _ σ _ D (J7.markedX x) q) (fun f s9 hq=>hq.unmarkedX I.ok) fun _ _ z=>z
theorem qR{x T C:Addr}{L:Nat}{a0:Value}{H':Hp}{s1:Shared}{h0:ExceptHandler}{hs:List ExceptHandler}{D:Ends}(hst:X.stack=X.env::X.outer)(hf:X.env.frame=some L)(J:Inv X pins σ H' s1)(t:Trc s1.heap x T (.ref C) a0)(ct:CtN s1.heap x)
  (h:∀h5,Heap.FlyingW (PySem.W.hideAll s1.heap (frs (X.env::X.outer)++[x,T])) (X.env::X.outer) x (.ref C) a0 h5->s1.heap.UpToSlots h5->CtN h5 x->wpAny (model X.prog X.w) X.A (handleBy (.ref x) X.env (h0::hs)) (SP X pins D) X.xe {s1 with heap:=h5}):
  wpAny (model X.prog X.w) X.A (noteFrame (.ref x) X.env) (fun _ s2=>wpAny (model X.prog X.w) X.A (setFlight (.ref x) none) (fun _ s3=>wpAny (model X.prog X.w) X.A (handleBy (.ref x) X.env (h0::hs)) (SP X pins D) X.xe s3) X.xe s2) X.xe s1:=by
 have fl:=ue J t;rw[hst]at fl;refine Gy ((jT _ _).any (wpAny_looks_onW (Q:=fun _ s4=>∃h4,s4={s1 with heap:=h4}/\Heap.HeldW (PySem.W.hideAll s1.heap (frs (X.env::X.outer)++[x,T])) (X.env::X.outer) x (.ref C) a0 L h4/\s1.heap.UpToSlots h4) (outer:=X.outer) (by rw[J.ok.frames,hst]) hf fl fun h4 held us4=>⟨h4,rfl,held,us4⟩)) (fun _ s4 z=>?_) fun _ _ z=>z.1;obtain⟨⟨h4,rfl,held,us4⟩,dk4⟩:=z;refine Gy ((cQ _ _).any (wpAny_landsW (Q:=fun _ s5=>∃h5,s5={s1 with heap:=h5}/\Heap.FlyingW (PySem.W.hideAll s1.heap (frs (X.env::X.outer)++[x,T])) (X.env::X.outer) x (.ref C) a0 h5/\h4.UpToSlots h5) held fun h5 fl5 us5=>⟨h5,rfl,fl5,us5⟩)) (fun _ s5 z=>?_) fun _ _ z=>z.1;obtain⟨⟨h5,rfl,fl5,us5⟩,dk5⟩:=z;exact h h5 fl5 (us4.trans us5) ((ct.kp dk4).kp dk5)
noncomputable def Dc (K : PySem.W.Frag) (mg : Str → Option Value) (N : Nat) (tb : XK → TS) (c1 c2 : Str) (t1 t2 : Addr → TS) : TS := fun D σ H => tb (fun cls _ H2 => ∃ C, cls = .ref C ∧
  ((Hit K mg c1 C ∧ ∀ (x : Addr) (σ' : St), σ'.length = N → H2 x = none → t1 x D σ' (upd H2 x (XC x))) ∨
   (Fe K mg c1 C ∧ Hit K mg c2 C ∧ ∀ (x : Addr) (σ' : St), σ'.length = N → H2 x = none → t2 x D σ' (upd H2 x (XC x))))) D σ H
theorem zL{L:Nat}{c1 c2:Str}{p1 p2 q1 q2 pos:Pos}{body:List Stmt}{b1 b2:Stmt}{su1 su2:List Stmt}{tb:XK->TS}{t1 t2:Addr->TS}
  (hb:∀pins W,PSs (X.tried pins W) body (tb W)) (h1:X.Ok->∀z,PSs (X.markedX z) (b1::su1) (t1 z)) (h2:X.Ok->∀z,PSs (X.markedX z) (b2::su2) (t2 z))
  (hst:X.stack=X.env::X.outer:=by rfl) (hf:X.env.frame=some L:=by rfl) (hex:X.ex=[]:=by rfl) (hg1:Gl X c1:=by rfl) (hg2:Gl X c2:=by rfl)
  (hd1:(c1==("__debug__":Str))=false:=by decide) (hd2:(c2==("__debug__":Str))=false:=by decide):
  PS X (.Try body [.ExceptHandler (some (.Name c1 p1)) none (b1::su1) q1,.ExceptHandler (some (.Name c2 p2)) none (b2::su2) q2] [] [] pos) (Dc X.K X.mg X.N.length tb c1 c2 t1 t2):=by
 intro pins s σ H DD I h;refine wpAny_Try_except (Gy (hb pins _ [] s σ H DD (I.tried _) h) (fun f s1 q=>?_) fun e s1 q=>?_)
 ·have q':=SP.untried q;cases f with
  |next=>exact wpAny_execs_nil q'
  |brk=>exact q'
  |cont=>exact q'
  |ret u=>exact q'
 ·obtain⟨x,C,T,σ',H2,s2,H',a0,rfl,I2,n1,n2,J,t,u1,u2,ct,C2,ec,Z⟩:=q;cases ec;refine qR hst hf J t ct fun h5 fl5 us ct5=>?_;rcases Z with⟨Z,q⟩|⟨Zm,Z,q⟩
  ·exact su hst hex I2 n1 n2 J u1 u2 fl5 us ct5 Z (h1 I.ok x) (q x σ' J.len u1) hg1 hd1
  ·exact yH hst hex I2 n1 n2 J u1 u2 fl5 us Zm hg1 hd1 (su hst hex I2 n1 n2 J u1 u2 fl5 us ct5 Z (h2 I.ok x) (q x σ' J.len u1) hg2 hd2)
end
section
variable{P:Program}{w:World}{K:Frag}{mg:Str->Option Value}{base:Heap}
theorem jg.make{k:Nat}{A:Around}(r:jg (k+1) A)(C:Addr)(us:List Value)(kw:List (Str×Value)):jg k (A.under (.builtin "type.__call__" ⟨.ref C::us,kw⟩)):=
 ⟨by have:=r.dp;rw[qe];omega,by have:=r.un;rw[qd];omega⟩
def FnM(P:Program)(w:World)(K:Frag)(mg:Str->Option Value)(base:Heap)(k:Nat)(f:Addr)(fd:FuncData)(ps:List Str)(sp:Sp):Prop:=
 (∀vs H Q E,sp vs H Q E->vs.length=ps.length)/\∀(A:Around)(outer:List Env)(s:Shared)(H:Hp)(args:Args)(us:List Value)(vs:List V)(Q:VK)(E:XK),jg k A->vU P w K mg base A outer s H->BindsTo s fd args (ps.zip us)->Vals vs us->sp vs H Q E->
  codeAny (model P w) A (.call (.ref f) args) (CR CX0 outer P w H s Q E) s
structure yW(P:Program)(w:World)(K:Frag)(mg:Str->Option Value)(base:Heap)(k:Nat)(c:Str)(C:Addr)(ps:List Str)(sp:Sp):Prop where
 ex:∃f fd,yV K mg c C f/\FnM P w K mg base k f fd ps sp/\Binds K fd ps []
theorem yW.df{k:Nat}{c:Str}{C:Addr}{ps:List Str}{sp:Sp}(D:yW P w K mg base k c C ps sp):DfX P w K mg base k c C ps sp:=by obtain⟨f,fd,M,⟨l,r⟩,b⟩:=D.ex;exact⟨f,fd,M,⟨l,fun A outer s H args us vs Q E hr=>r A outer s H args us vs Q E hr.m⟩,b⟩
theorem TxX.dfM{c qual:Str}{C:Addr}{st:Stmt}{N ps:List Str}{k:Nat}{sp:Sp}(T:TxX K mg c C st ps qual)(S:aD N ps (aq st))(len:∀vs H Q E,sp vs H Q E->vs.length=ps.length)
  (hbody:∀(f:Addr)(cdv:Value)(A:Around)(outer:List Env)(s:Shared)(H:Hp)(vs:List V)(Q:VK)(E:XK),yV K mg c C f->jg k (A.deeper (envOfC qual (aq st) s.heap.objs.size f cdv))->sp vs H Q E->
   ∃t,PSs (cT CX0 P w K mg base N qual (aq st) f cdv A outer s H E).uncalm (bB st) t/\t {nx:=fun _ H'=>Q .non H',rt:=Q} (start N vs) H):yW P w K mg base (k+1) c C ps sp:=by
 obtain⟨f,fd,M,Fu,b⟩:=T.ex;obtain⟨oc,od,kV,doc,pm,an,cdv,ct,osl,rfl,lk,hcd⟩:=id Fu.ex;refine⟨f,_,M,⟨len,fun A outer s H args us vs Q E hr e0 hb r hsp=>?_⟩,b⟩;have hl:=len _ _ _ _ hsp;have KX:K.In s.heap:=e0.mod.kin.keeps fun b o e=>(e0.bs b o e).1;have lim:s.heap.NoLimit:=e0.mod.nolimit.keeps fun b o e=>(e0.bs b o e).1;have hkind:∀y∈ps.zip us,(aq st).names.lookup y.1=some .local\/((aq st).names.lookup y.1=some .cell/\((cellsFrom (s.heap.objs.size+1) (aq st).names []).lookup y.1).isSome=true):=fun y hy=>by
  rcases S.par y.1 (List.of_mem_zip hy).1 with z|z
  ·exact .inl z
  ·exact .inr ⟨z,PySem.W.cellsFrom_some _ _ _ (.inl z)⟩
 have hdp:A.depth<recursionLimit:=by have:=hr.dp;omega
 refine codeAny_call_function hdp (KX _ _ lk) rfl S.co S.gen rfl (PySem.W.codeRec_of KX hcd) (hb _ _ _ _ ?_);refine wpAny_newFunctionEnv_cells S.kind hkind fun env he s1 x1=>?_;subst he;refine⟨lim.keeps x1.toInCall.keep,codeAny_func ?_⟩;have hrd:jg k (A.deeper (envOfC qual (aq st) s.heap.objs.size f cdv)):=by have r0:cb (k+1) {A with handled:=none}:=⟨rfl,hr.dp,hr.un⟩;have r1:=r0.deeper (envOfC qual (aq st) s.heap.objs.size f cdv);exact⟨r1.dp,r1.un⟩
 obtain⟨t,ht,hq⟩:=hbody f cdv A outer s H vs Q E M hrd hsp;have I0:Inv (cT CX0 P w K mg base N qual (aq st) f cdv {A with handled:=none} outer s H E) [] (start N vs) H s1:=
  sj S rfl ⟨e0.frames,e0.mod,e0.bs,e0.bsz,e0.funs,e0.frf,e0.hok,e0.bare⟩ hl r x1
 have I:=wM I0 (Around.frames_deeper e0.frames);refine Gy (ht [] s1 (start N vs) H _ I hq) (fun fl s' hs=>?_) fun e s' hs=>False.elim hs;have fin:∀{σ':St}{H':Hp}{v:V}{u:Value},Inv (cT CX0 P w K mg base N qual (aq st) f cdv A outer s H E).uncalm [] σ' H' s'->RelV v u->Q v H'->CE outer P w H s Q u s':=
  fun {σ' H' v u} J rv q=>⟨v,H',J.os,J.bare,J.base,J.hok,rv,q⟩
 cases fl with
 |ret u=>obtain⟨v,σ',H',J,rv,q⟩:=hs;exact fin J rv q
 |next=>obtain⟨σ',H',J,q⟩:=hs;exact fin (v:=V.non) (u:=Value.none) J rfl q
 |brk=>obtain⟨_,_,_,q⟩:=hs;exact False.elim q
 |cont=>obtain⟨_,_,_,q⟩:=hs;exact False.elim q
end
section
variable{X:Cx}
theorem xA{j k:Nat}{c:Str}{C:Addr}{ps:List Str}{sp:Sp}{np pos:Pos}{e:Expr}{es:List Expr}{t:TA}(D:yW X.prog X.w X.K X.mg X.base j c C ps sp)(hr:jg k X.A)(ha:PA X (e::es) t)(hg:Gl X c:=by rfl)(hj:j+1<=k:=by decide)(hex:X.ex=[]:=by rfl)
  (hdb:(c==("__debug__":Str))=false:=by decide) (he:starEach (e::es) X.env=(false,eval e X.env)::starEach es X.env:=by rfl) (hpl:(backTo pos (starEach es X.env)).any (·.1)=false:=by rfl):
  PE X (.Call (.Name c np) (e::es) [] pos) (vZ C sp E0 t):=by
 obtain⟨f,fd,M,⟨len,run⟩,hb⟩:=D.ex;intro pins s σ H Q I h;refine wpAny_Call_Name_kw (gx I hg M.mg ?_ hdb);refine PySem.W.callWith_K (h₀:=X.base) I.ok.mod.kin M.kp (thn (ha pos pins s σ H _ I h) fun us s1 ⟨vs,H1,I1,r,hl,q⟩=>⟨I1.kIn,?_⟩) he hpl;obtain⟨tl,N,nm,qn,bs,hdt,sn,sub,ab,col,dd,k0,k1,k2,k3,k5,mN,hC,hN,hi,T,_⟩:=PySem.W.i4 I1.kIn M.ok;have hx0:us.length<=sizeLine:=by rw[<-r.length];exact hl
 obtain⟨oI,hfI,hfc⟩:∃oI,s1.heap.get? f=some oI/\oI.cls=.type "function":=by have z:=HC.mp M.fn;obtain⟨o,ho,hc⟩:=Option.map_eq_some_iff.mp z;exact⟨o,I1.kIn _ _ ho,hc⟩
 obtain⟨hp,g,d,tk,os⟩:=s1;refine fU (hrest:=hx0) PySem.F.excBase_ValueError T hC hN hi hfI hfc fun h' x hm=>?_;obtain⟨p1,p2,p3,p4⟩:=I1.apart hex hm.new;obtain⟨tt,ht,_,_⟩:=hm.there;have I2:=(I1.kept (t':=tk) hm.keeps).trackO p1 (I1.untr hm.new) p2 p3 p4 ⟨tt,ht⟩;have hq:=q x (I1.untr hm.new);have r2:Vals (V.ref x::vs) (Value.ref x::us):=.cons rfl r;have hl2:(Value.ref x::us++[]).length=ps.length:=by have e:=r2.length;rw[len _ _ _ _ hq]at e;rw[GF];exact e.symm
 have hb':=hb _ (Value.ref x::us) I2.kIn hl2;rw[GF]at hb';refine wpAny_call (codeAny_mono (run _ X.stack _ _ ⟨Value.ref x::us,[]⟩ (Value.ref x::us) _ _ E0 ((hr.mono hj).make C us []) (I2.env0.make C us []) hb' r2 hq) fun z s' hq'=>?_);cases z with
 |error e=>exact False.elim hq'
 |ok fl=>
  cases fl with
  |ret u=>obtain⟨v,H',I3,rv,ev,q3⟩:=I2.after hq';subst ev;exact⟨rv,⟨V.ref x,H',I3,rfl,q3⟩⟩
  |next=>exact False.elim hq'
  |brk=>exact False.elim hq'
  |cont=>exact False.elim hq'
end
end L2
namespace L2
theorem mN{α:Type}{P:α->Prop}:∀p∈([]:List α),P p:=fun _ h=>nomatch h
theorem mC{α:Type}{P:α->Prop}{a:α}{l:List α}(h:P a)(t:∀p∈l,P p):∀p∈a::l,P p:=fun p hp=>by
 cases hp with
 |head=>exact h
 |tail _ hp=>exact t p hp
end L2
namespace L2
open PySem PySem.Spec PyProof.Rows LM
structure qB(rs:List (List Key))(R:iM):Prop where
 len:R.length<=28
 sub:∀q∈R,∀r∈q.2,r∈rs
 l59:rs.length<=59
 bur:∀r∈rs,fE r
 nd:(rs.map bh).Nodup
 good:∀q∈R,GoodC q.2
noncomputable def wN:List Key->Str
 |_::_:: .inr x::_=>x
 |_=>Str.empty
structure x4(K:Frag)(mg:Str->Option Value)(C:Addr):Prop where
 cls:Cls K C
 num:bu K C "number"
 sin:bu K C "since"
 sig:bu K C "signed"
 want:∃CP,mg "Paper"=some (.ref CP)/\findIn K (.ref C) "wanting"=findIn K (.ref CP) "wanting"
noncomputable def FN(num since:Int)(sg:Addr):List (Str×V):=[("number",.int num),("since",.int since),("signed",.ref sg)]
noncomputable def ft(sg:List Str):List Str->Option Str
 | []=>none
 |x::xs=>if x∈sg then ft sg xs else some x
noncomputable def SV(xs:List Str):List V:=xs.map V.str
noncomputable def CK(o:Option Str):V:=match o with
 |none=>.non
 |some x=>.str x
theorem Bl(a b:Str):PyData.eqv (.str a) (.str b)=decide (a=b):=by
 have h:=xJ (.inr a) (.inr b);have e:(decide ((Sum.inr a:Key)=Sum.inr b))=decide (a=b):=by
  by_cases z:a=b
  ·simp[z]
  ·simp[z]
 rw[e]at h;exact h
theorem vP(ss:List Str)(x:Str):((ss.map PyData.str).any fun e=>PyData.eqv e (.str x))=decide (x∈ss):=by
 rw[List.any_map]
 induction ss with
 |nil=>simp
 |cons y ys ih=>
  rw[Hw,ih];show(PyData.eqv (.str y) (.str x)||_)=_;rw[Bl];by_cases z:x=y
  ·subst z;simp
  ·have z':¬y=x:=fun w=>z w.symm;simp[z,z']
theorem rF(sg:List Str)(x:Str)(xs:List Str):ft sg (x::xs)=if x∈sg then ft sg xs else some x:=rfl
theorem oJ{K:Frag}{mg:Str->Option Value}{CF:Addr}{H0 Hc:Hp}{E:XK}{tv v u:V}(z:eD mg "Falls" CF)(xc:oq K CF)(s:aw H0 Hc)
  (e:∀dx H',aw Hc H'->H' dx=some (XD dx [("who",u),("word",v)])->E (kf mg "Falls") (some dx) H'):
  ∀x,Hc x=none->Bm CF "word" "who" [.ref x,tv,v,u] (upd Hc x (XO x CF none)) (fun v' H2=>v'=.non/\∃x' C od,V.ref x=.ref x'/\H2 x'=some (XO x' C od)/\oq K C/\RzW H0 E x' (.ref C) od H2) E0:=by
 intro x hx;refine⟨x,tv,v,u,rfl,af,fun dx hd ne=>⟨rfl,x,CF,some dx,rfl,?_,xc,s.free hx,?_⟩⟩
 ·rw[az (fun y=>ne y.symm)];exact af
 ·rw[<-vI z];have hdc:Hc dx=none:=by
   rw[az ne]at hd;exact hd
  refine e dx _ (fun b o h=>?_) ?_
  ·have n1:b≠x:=fun y=>by rw[y,hx]at h;cases h
   have n2:b≠dx:=fun y=>by rw[y,hdc]at h;cases h
   rw[f7 n1,az n2,az n1,az n1];exact h
  ·rw[f7 ne];exact af
section
variable{X:Cx}{CX:CXT}{k:Nat}{ps:List Str}{dvs:List V}{ds:List Value}{E:XK}{m:Str}{pos apos:Pos}{e o:Expr}{es:List Expr}{ta:TE}{t:TA}
def Dd(P:Program)(w:World)(K:Frag)(mg:Str->Option Value)(base:Heap)(CX:CXT)(k:Nat)(m:Str)(ps:List Str)(dvs:List V)(ds:List Value)(E:XK)(ta:TE)(t:TA):TE:=fun σ H Q=>ta σ H fun x H1=>∃a C dx fs sp,x=.ref a/\H1 a=some (.ins C dx fs)/\Cls K C/\DfT P w K mg base CX k C m ps sp ds/\fs.lookup m=none/\
 t σ H1 fun vs H2=>sp (x::(vs++dvs)) H2 Q E
theorem uV{P:Program}{w:World}{K:Frag}{mg:Str->Option Value}{base:Heap}{pl:Sem Bool}(hP:X.prog=P)(hw:X.w=w)(hK:X.K=K)(hm:X.mg=mg)(hb:X.base=base)(ps:List Str)(k:Nat)(he:PE X o ta)(hr:cb k X.A)(hd:Vals dvs ds)(hx:Passes CX X E)(ha:PA X (e::es) t)
  (hst:starEach (e::es) X.env=(false,eval e X.env)::starEach es X.env:=by rfl) (hpl:(backTo pos (starEach es X.env)).any (·.1)=false:=by rfl)
  (ht:eval (.Call (.Attribute o m apos) (e::es) [] pos) X.env=(do
   let ov <-eval o X.env
   standAt apos.atName
   let (f,first) <-holding [ov] (getMethod ov m pl)
   callWith pos f first (backTo pos (starEach (e::es) X.env)) (backToKw pos (keywordEach [] X.env))):=by rfl):
  PE X (.Call (.Attribute o m apos) (e::es) [] pos) (Dd P w K mg base CX k m ps dvs ds E ta t):=by
 subst hP hw hK hm hb;exact jD (pl:=pl) ps k he hr hd hx ha hst hpl ht
end
structure PlG(rs:List (List Key))(p:Plt):Prop where
 nm:qB rs p.R
 st:∃f,ij f p.R/\∀i,i<64->((f i).isSome=true<->p.g.testBit i=true)
noncomputable def fnd(ps:List Plt)(c:Nat):Option Plt:=ps.find? fun p=>p.g.testBit c
inductive rC
 |falls (word who:Str)
 |does (p q:Plt)
noncomputable def CZ(p q:Plt):PyData:=.tuple [.tuple [plD p],.tuple [plD q],.tuple []]
noncomputable def outD:rC->PyData
 | .falls w x=>.tuple [.str "falls",.str w,.str x]
 | .does p q=>.tuple [.str "does",CZ p q]
def AK(K:Frag)(mg:Str->Option Value)(H:Hp)(Q:VK)(E:XK)(R:rC->Prop):Prop:=
 (∀p q v H',aw H H'->R (.does p q)->IsD K H' (CZ p q) v->Q v H')/\
 ∀w x dx H',aw H H'->R (.falls w x)->H' dx=some (XD dx [("who",.str x),("word",.str w)])->E (kf mg "Falls") (some dx) H'
theorem uu{K:Frag}{H:Hp}{v:V}{r:List Key}(hb:fE r)(h:eQ K H v r):∃a xs,v=.ref a/\SqT K H a xs/\atI xs 2=some (.str (wN r))/\PyData.canLay0 (.str (wN r))=true:=by obtain⟨n,k,x,m,u,rfl⟩:=hb;obtain⟨lay,a,rfl,ha⟩:=h;refine⟨a,_,rfl,ha,rfl,?_⟩;exact lay (.inr x) (by simp)
theorem w4{C:List Col}{T:Col}{rs:List (List Key)}{k:Nat}(h:mF C T)(sub:∀c∈C,∀r∈c,r∈rs)(hk:rs.length<=k):T.length<=k:=by
 have nd:T.Nodup:=List.Pairwise.imp (fun {a b} w e=>by rw[e]at w;omega) h.so;have:T.length<=rs.length:=nd.length_le_of_subset fun r hr=>by obtain⟨c,hc,hr'⟩:=(h.mem r).mp hr;exact sub c hc r hr'
 omega
theorem st5{σ:St}(h:σ.length=5):∃o0 o1 o2 o3 o4,σ=[o0,o1,o2,o3,o4]:=by
 cases σ with
 |nil=>cases h
 |cons a σ=>
 replace h:=GG h;cases σ with
 |nil=>cases h
 |cons b σ=>
 replace h:=GG h;cases σ with
 |nil=>cases h
 |cons c σ=>
 replace h:=GG h;cases σ with
 |nil=>cases h
 |cons d σ=>
 replace h:=GG h;cases σ with
 |nil=>cases h
 |cons e σ=>
 replace h:=GG h;cases σ with
 |nil=>exact⟨a,b,c,d,e,rfl⟩
 |cons x σ=>cases h
noncomputable def p7(k c:Int):Int:=1+(k*7919+c) % 9973*(if c / 9973 % 2=0 then 1 else 100003)
theorem BQ{i j:Nat}{c:Int}(hi:i<13)(hj:j<13)(e:p7 (i:Nat) c=p7 (j:Nat) c):i=j:=by
 unfold p7 at e;have h:((i:Int)*7919+c) % 9973=((j:Int)*7919+c) % 9973:=by split at e<;>omega
 omega
theorem DE(c:Int):((List.range 13).map fun k:Nat=>p7 (k:Nat) c).Nodup:=by rw[List.Nodup,List.pairwise_map];refine List.Pairwise.imp_of_mem ?_ List.nodup_range;intro a b ha hb ne e;exact ne (BQ (GN.mp ha) (GN.mp hb) e)
theorem ou{f:Nat->Option Col}{R:iM}(h:ij f R){q:Nat×Col}(hq:q∈R):∃i,i<64/\f i=some q.2:=by obtain⟨q1,q0,qb⟩:=h.ok q hq;have l1:dS q.1<64:=iY q1 (by decide) q0;exact⟨_,l1,(qb _ l1).mp (eI q1 q0).1⟩
theorem Bk{f:Nat->Option Col}{R:iM}{C1 C2:Col}(h:ij f R)(hc:∀i c,f i=some c->c=C1\/c=C2):R.length<=2:=by
 have:=List.Nodup.length_le_of_subset h.nd (l₂:=[C1,C2]) fun c hc'=>by obtain⟨q,hq,rfl⟩:=Ge.mp hc';obtain⟨i,_,e⟩:=ou h hq;rcases hc i _ e with e|e<;>rw[e]<;>simp
 rwa[FY]at this
theorem Dv{ss:List Str}{rs:List (List Key)}{p:Plt}(o:xa ss rs p)(hb:∀r∈rs,fE r)(l13:rs.length=13)(nd:(rs.map bh).Nodup)(cn:∀q∈p.R,(q.2.map bh).Nodup)(l2:p.R.length<=2):PlG rs p:=by
 obtain⟨f,h1,h2,h3⟩:=o.st;have sub:∀q∈p.R,q.2.length<=12/\∀r∈q.2,r∈rs:=fun q hq=>by obtain⟨i,_,e⟩:=ou h1 hq;exact h3 i _ e
 exact⟨⟨by omega,fun q hq=>(sub q hq).2,by omega,hb,nd,fun q hq=>⟨fun r hr=>hb r ((sub q hq).2 r hr),cn q hq,by have:=(sub q hq).1;omega⟩⟩,f,h1,h2⟩
theorem EV:∀d,d<12->∀s,s<13->d≠0->s≠0->d*s % 13≠0:=by decide
theorem D6{rs C:List (List Key)}{a s n:Nat}(nd:(rs.map bh).Nodup)(hl:rs.length=13)(lC:C.length=n)(hn:n<=12)(hs:1<=s/\s<=12)(ix:∀t,t<n->C[t]?=rs[(a+t*s) % 13]?):(C.map bh).Nodup:=by
 rw[List.Nodup,HI];intro i j hi hj lt e;rw[FY]at hi hj;rw[List.getElem_map,List.getElem_map]at e;have m1:(a+i*s) % 13<rs.length:=by rw[hl];exact Nat.mod_lt _ (by decide)
 have m2:(a+j*s) % 13<rs.length:=by rw[hl];exact Nat.mod_lt _ (by decide)
 have e1:=ix i (by omega);have e2:=ix j (by omega);rw[Gh hi,Gh m1]at e1;rw[Gh hj,Gh m2]at e2;rw[GB e1,GB e2]at e;have e3:(rs.map bh)[(a+i*s) % 13]'(by rw[FY];exact m1)=(rs.map bh)[(a+j*s) % 13]'(by rw[FY];exact m2):=by rw[List.getElem_map,List.getElem_map];exact e
 have pw:=HI.mp nd;have e4:(a+i*s) % 13=(a+j*s) % 13:=by
  rcases Nat.lt_trichotomy ((a+i*s) % 13) ((a+j*s) % 13)with y|y|y
  ·exact absurd e3 (pw _ _ _ _ y)
  ·exact y
  ·exact absurd e3.symm (pw _ _ _ _ y)
 obtain⟨d,rfl⟩:∃d,j=i+d:=⟨j-i,by omega⟩;have:=EV d (by omega) s (by omega) (by omega) (by omega);rw[Nat.add_mul]at e4;omega
theorem ud{ps:List Plt}{c:Nat}{p:Plt}(h:fnd ps c=some p):p∈ps/\p.g.testBit c=true:=⟨List.mem_of_find?_eq_some h,List.find?_some (p:=fun p:Plt=>p.g.testBit c) h⟩
theorem xO:∀{ps:List Plt}{c:Nat},(ps.map (·.g)).Pairwise Dis->∀p∈ps,∀q∈ps,p.g.testBit c=true->q.g.testBit c=true->p=q
 | [],_,_,_,hp,_,_,_,_=>nomatch hp
 |a::ps,c,ap,p,hp,q,hq,h1,h2=>by
  rw[F9,List.pairwise_cons]at ap;rcases Gg.mp hp with e1|hp'
  ·rcases Gg.mp hq with e2|hq'
   ·rw[e1,e2]
   ·rw[e1]at h1;exact absurd ⟨h1,h2⟩ (ap.1 _ (Ge.mpr ⟨q,hq',rfl⟩) c)
  ·rcases Gg.mp hq with e2|hq'
   ·rw[e2]at h2;exact absurd ⟨h2,h1⟩ (ap.1 _ (Ge.mpr ⟨p,hp',rfl⟩) c)
   ·exact xO ap.2 p hp' q hq' h1 h2
theorem Ck{ps:List Plt}{c:Nat}(ap:(ps.map (·.g)).Pairwise Dis):fnd ps.reverse c=fnd ps c:=by
 cases h:fnd ps c with
 |none=>have:=Hn.mp h;exact Hn.mpr fun x hx=>this x (List.mem_reverse.mp hx)
 |some p=>
  obtain⟨m1,b1⟩:=ud h;cases k:fnd ps.reverse c with
  |none=>exact absurd b1 (Hn.mp k p (List.mem_reverse.mpr m1))
  |some q=>obtain⟨m2,b2⟩:=ud k;rw[xO ap q (List.mem_reverse.mp m2) p m1 b2 b1]
theorem BF{p q:Plt}(h:Pln (plD p))(k:Pln (plD q)):Pln (outD (.does p q)):=
 .tup (Gq rfl) (.cons (.str _) (.cons (.tup (Gq rfl) (.cons (.tup (Gq rfl) (.cons h .nil)) (.cons (.tup (Gq rfl) (.cons k .nil)) (.cons (.tup (Gq rfl) .nil) .nil)))) .nil))
theorem jB(w x:Str):Pln (outD (.falls w x)):=.tup (Gq rfl) (.cons (.str _) (.cons (.str _) (.cons (.str _) .nil)))
theorem Du{g:Nat}{S:Sh}{R:iM}{num:Int}{f:Nat->Option Col}{F:Col->Col}(hS:S.length<=1000)(h:ij (fun i=>(f i).map F) R)(hc:∀i c,i<64->f i=some c->(F c).length<=1000/\∀r∈F c,r.length<=1000):Pln (plD ⟨g,S,R,num⟩):=by
 have b:Pln (uE R):=.tup (by rw[FY];exact GA h.len (by decide)) (jP fun d hd=>by
  obtain⟨q,hq,rfl⟩:=Ge.mp hd;obtain⟨i,hi,e⟩:=ou h hq;have e':(f i).map F=some q.2:=e;obtain⟨c,e1,e2⟩:=Option.map_eq_some_iff.mp e';obtain⟨c1,c2⟩:=hc i c hi e1;rw[e2]at c1 c2
  exact .tup (Gq rfl) (.cons (.int _) (.cons (xw c1 c2) .nil)))
 exact .tup (Gq rfl) (.cons (.int _) (.cons (xv hS) (.cons b (.cons (.int _) .nil))))
theorem AQ(o:rC):(outD o).depth<=10:=by
 cases o with
 |falls w x=>exact Gq rfl
 |does p q=>have a:=uf p;have b:=uf q;show max (PyData.str _).depth (max (max (max (plD p).depth 0+1) (max (max (plD q).depth 0+1) (max (0+1) 0))+1) 0)+1<=10;have c:(PyData.str "does").depth<=9:=Gq rfl;have hm:∀{a b n:Nat},a<=n->b<=n->max a b<=n:=fun h k=>Nat.max_le.mpr ⟨h,k⟩;have a7:=GA a (show 6<=7 by decide);have b7:=GA b (show 6<=7 by decide);exact Nat.succ_le_succ (hm c (hm (Nat.succ_le_succ (hm (Nat.succ_le_succ (hm a7 (GO _))) (hm (Nat.succ_le_succ (hm b7 (GO _))) (by decide)))) (GO _)))
theorem B6{rs:List (List Key)}{p:Plt}(G:PlG rs p){f:Nat->Option Col}(h:ij f p.R):∀i c,i<64->f i=some c->GoodC c:=fun i c hi e=>by obtain⟨q,hq,e2⟩:=Ge.mp (h.all i c hi e);rw[<-e2];exact G.nm.good q hq
end L2
namespace L2
open PySem PySem.Spec PyProof.Rows
section
variable{X:Cx}{CX:CXT}{k:Nat}{C:Addr}{ps:List Str}{sp:Sp}{dvs:List V}{ds:List Value}{E:XK}{c m:Str}{L:Addr}{np pos apos:Pos}{e o:Expr}{es:List Expr}{ta:TE}{t:TA}
theorem zQ{j:Nat}(M:MkC X.K X.mg c C)(D:DfT X.prog X.w X.K X.mg X.base CX0 j C "__init__" ps sp ds)(hr:cb k X.A)(ha:PA X (e::es) t)(hg:Gl X c:=by rfl)(hj:j+1<=k:=by decide)(hdb:(c==("__debug__":Str))=false:=by decide)
  (he:starEach (e::es) X.env=(false,eval e X.env)::starEach es X.env:=by rfl) (hpl:(backTo pos (starEach es X.env)).any (·.1)=false:=by rfl):PE X (.Call (.Name c np) (e::es) [] pos) (zo C sp [] E0 t):=by
 obtain⟨f,fd,F,b,_,hm⟩:=D.ex;exact xx ⟨M.makes,hm.at_,hm.fn,M.kp⟩ F (hr.mono hj) hg M.mg b .nil nQ ha hdb he hpl
theorem zR{j:Nat}(M:MkC X.K X.mg c C)(D:DfT X.prog X.w X.K X.mg X.base CX0 j C "__init__" ps sp [Value.none])(hr:cb k X.A)(ha:PA X (e::es) t)(hg:Gl X c:=by rfl)(hj:j+1<=k:=by decide)(hdb:(c==("__debug__":Str))=false:=by decide)
  (he:starEach (e::es) X.env=(false,eval e X.env)::starEach es X.env:=by rfl) (hpl:(backTo pos (starEach es X.env)).any (·.1)=false:=by rfl):PE X (.Call (.Name c np) (e::es) [] pos) (zo C sp [V.non] E0 t):=by
 obtain⟨f,fd,F,_,b,hm⟩:=D.ex;exact xx ⟨M.makes,hm.at_,hm.fn,M.kp⟩ F (hr.mono hj) hg M.mg b (.cons rfl .nil) nQ ha hdb he hpl
theorem BA{st:Stmt}:PS X st (fun _ _ _=>False):=by intro D pins s σ H I h;exact h.elim
end
theorem fY{n:Nat}{P:List Value->Prop}(h:∀a us,us.length=n->P (a::us))(us:List Value)(e:us.length=n+1):P us:=by
 cases us with
 |nil=>cases e
 |cons a us=>exact h a us (GG e)
theorem lenZ{P:List Value->Prop}(h:P [])(us:List Value)(e:us.length=0):P us:=by
 cases us with
 |nil=>exact h
 |cons a us=>cases e
end L2
namespace L2
open PySem PySem.Spec PyProof.Rows LM
theorem EX{d:Value}{n:Nat}{P:List Value->Prop}(h:∀us,us.length=n->P us):∀us,(us++[d]).length=n+1->P us:=fun us e=>h us (by
 rw[Gd]at e
 exact GG e)
noncomputable def CS:List Key->Str
 |_:: .inr x::_=>x
 |_=>Str.empty
noncomputable def Fi:List Key->Int
 |_::_::_::_:: .inl n::_=>n
 |_=>0
theorem BR(k c:Int):p7 k c≠0:=by
 unfold p7;have a:=GP (k*7919+c) (show(9973:Int)≠0 by decide);split
 ·omega
 ·omega
theorem BG{g:Nat}{S:Sh}{R:iM}{num:Int}{f:Nat->Option Col}(hS:S.length<=1000)(h:ij f R)(hc:∀i c,i<64->f i=some c->c.length<=1000/\∀r∈c,r.length<=1000):Pln (plD ⟨g,S,R,num⟩):=
 Du (F:=id) hS (h.congr fun i _=>by cases f i<;>rfl) hc
end L2
namespace LT
open PySem PySem.Spec PyProof.Rows L2
section
variable[KN]{prog:Program}{w:World}{A:Around}{E:Value->Shared->Prop}{s:Shared}[vS prog w A E s]{a₀:Array Keyed}{z:SortSt}{lo:Nat}
theorem zg{st:SortSt}{nrem:Nat}{Q:Option Nat->SortSt->Prop}(h0:qC a₀)(hB:SA a₀ z lo st)(hn:lo+nrem<=a₀.size)(h1:1<=nrem)(hs:k9 (arrOf st) lo nrem)(h:Q (some nrem) st):wpS (model prog w) A E s (countRun' lo nrem) Q st:=by
 rw[countRun'_eq];have one:k9 (arrOf st) lo 1:=fun i j hij hj=>by
  have e:i=j:=by omega
  subst e;exact HK _
 refine GQ (sO (fun _ _=>rfl) (fun _ _=>rfl) h0 hB hn (F4 1) h1 one fun n n1 n2 sn hor=>?_);dsimp only;have e:n=nrem:=by
  rcases hor with e|e
  ·exact e
  ·by_cases c:n=nrem
   ·exact c
   ·have:=hs (n-1) n (by omega) (by omega);rw[show lo+(n-1)=lo+n-1 by omega]at this;omega
 subst e;rw[F8 (by simp)];exact Hi h
theorem tT{n:Nat}(h:n<64)(h1:1<=n):minRun' n n 0=n:=by
 cases n with
 |zero=>omega
 |succ k=>show(if k+1<64 then k+1+0 else _)=_;rw[F8 h]
theorem nA{st:SortSt}{Q:Unit->SortSt->Prop}(h0:qC a₀)(pm:(arrOf st).Perm a₀)(kd:kindOf st=kd0)(fl:failedOf st=none)(pd:pendingOf st= #[])(h2:1<=a₀.size)(hor:a₀.size<64\/SortedTo (arrOf st) a₀.size)
  (h:∀st',(arrOf st').Perm a₀->failedOf st'=none->SortedTo (arrOf st') a₀.size->Q () st'):wpS (model prog w) A E s sortRuns' Q st:=by
 rw[sortRuns'_eq];refine GQ (wpS_get ?_);dsimp only;have sz:(arrOf st).size=a₀.size:=pm.size_eq;rw[sz];refine GQ (wpS_mono (wpS_forRange (I:=fun x c st'=>(x=0/\c=(none,0)/\st'=st)\/(c=(none,a₀.size)/\(arrOf st').Perm a₀/\failedOf st'=none/\SortedTo (arrOf st') a₀.size/\(pendingOf st').size<=1)) (Q:=fun c st'=>c=(none,a₀.size)/\(arrOf st').Perm a₀/\failedOf st'=none/\SortedTo (arrOf st') a₀.size/\(pendingOf st').size<=1) ?step ?fin (.inl ⟨rfl,rfl,rfl⟩)) ?post)
 case fin=>
  rintro c st' (⟨e,_⟩|y)
  ·exfalso;omega
  ·exact y
 case step=>
  rintro x c st1 _ hx (⟨_,rfl,rfl⟩|⟨rfl,y⟩)
  ·dsimp only;rw[F6 (by omega)];have B1:SA a₀ st1 0 st1:=⟨pm,kd,fl,rfl,fun _ _=>rfl⟩
   have key:∀st3:SortSt,SA a₀ st1 0 st3->k9 (arrOf st3) 0 a₀.size->pendingOf st3= #[]/\SortedTo (arrOf st3) a₀.size:=fun st3 B3 sn=>⟨B3.pend.trans pd,fun i j hij hj=>by
    have:=sn i j hij hj;rw[HE,HE]at this
    exact this⟩
   rcases hor with h64|so
   ·refine GQ (Be h0 B1 (by omega) (by omega) fun m st2 B2 m1 m2 sn2=>?_);dsimp only;rw[tT h64 h2];by_cases c2:m<a₀.size
    ·rw[F8 c2];refine GQ (wpS_lift (wpAny_rule ⟨rfl,?_⟩));rw[show min (a₀.size-0) a₀.size=a₀.size by omega];refine GQ (rE h0 (by omega) (by omega) B2 sn2 fun st3 B3 sn3=>?_)
     try dsimp only
     rw[F6 (by decide)];obtain⟨pe,so⟩:=key st3 B3 sn3;refine GQ (wpS_get ?_);rw[pe];refine GQ (wpS_modify (Hi (.inr ⟨by rw[HE],B3.perm,B3.failed,so,?_⟩)));show((pendingOf st3).push _).size<=1;rw[pe];exact F4 _
    ·rw[F6 c2];have:m=a₀.size:=(by omega);subst this;obtain⟨pe,so⟩:=key st2 B2 sn2;refine GQ (wpS_get ?_);rw[pe];refine GQ (wpS_modify (Hi (.inr ⟨by rw[HE],B2.perm,B2.failed,so,?_⟩)));show((pendingOf st2).push _).size<=1;rw[pe];exact F4 _
   ·refine GQ (zg h0 B1 (by omega) (by omega) (fun i j hij hj=>?_) ?_)
    ·rw[HE,HE];exact so i j hij (by omega)
    dsimp only;have sn0:k9 (arrOf st1) 0 (a₀.size-0):=fun i j hij hj=>by rw[HE,HE];exact so i j hij (by omega)
    by_cases c2:a₀.size-0<minRun' a₀.size a₀.size 0
    ·rw[F8 c2];refine GQ (wpS_lift (wpAny_rule ⟨rfl,?_⟩));rw[show min (a₀.size-0) (minRun' a₀.size a₀.size 0)=a₀.size by omega];refine GQ (rE h0 (by omega) (by omega) B1 sn0 fun st3 B3 sn3=>?_)
     try dsimp only
     rw[F6 (by decide)];obtain⟨pe,so⟩:=key st3 B3 sn3;refine GQ (wpS_get ?_);rw[pe];refine GQ (wpS_modify (Hi (.inr ⟨by rw[HE],B3.perm,B3.failed,so,?_⟩)));show((pendingOf st3).push _).size<=1;rw[pe];exact F4 _
    ·rw[F6 c2];refine GQ (wpS_get ?_);rw[pd];refine GQ (wpS_modify (Hi (.inr ⟨by rw[HE];rfl,pm,fl,so,?_⟩)));show((pendingOf st1).push _).size<=1;rw[pd];exact F4 _
  ·dsimp only;rw[F8 (by omega)];exact Hi ⟨rfl,y⟩
 case post=>
  rintro c st1 ⟨rfl,p1,p2,p3,p4⟩;dsimp only;refine GQ (wpS_mono (wpS_forRange (I:=fun x c st'=>c=(none,())/\st'=st1) (Q:=fun c st'=>c=(none,())/\st'=st1) ?fstep ?ffin ⟨rfl,rfl⟩) ?fpost)
  case ffin=>exact fun c st' y=>y
  case fstep=>rintro x c st' _ hx ⟨rfl,rfl⟩;refine GQ (wpS_get ?_);rw[F8 p4];exact Hi ⟨rfl,rfl⟩
  case fpost=>rintro c st' ⟨rfl,rfl⟩;exact Hi (h _ p1 p2 p3)
end
section
variable{prog:Program}{w:World}{A:Around}{E:Value->Shared->Prop}{s:Shared}
theorem sU{vs:List Value}{ns:List Int}(hI:IntsAre vs ns)(up:ns.Pairwise (·<=·)): @SortedTo knI (pairsOf vs) (pairsOf vs).size:=by
 have at_:∀{vs:List Value}{ns:List Int},IntsAre vs ns->∀i,i<vs.length->∃n t,vs[i]?=some (.int n t)/\ns[i]?=some n:=by
  intro vs ns h
  induction h with
  |nil=>exact fun i hi=>nomatch hi
  |cons n t _ ih=>
   intro i hi;cases i with
   |zero=>exact⟨n,t,rfl,rfl⟩
   |succ i=>exact ih i (Nat.lt_of_succ_lt_succ hi)
 have kat:∀i,i<vs.length->∃n,ns[i]?=some n/\ @K knI (pairsOf vs) i=n:=fun i hi=>by obtain⟨n,t,e1,e2⟩:=at_ hI i hi;refine⟨n,e2,?_⟩;unfold K;rw[<-Hl,pairsOf_toList,(List.getElem?_zip_eq_some (z:=((Value.int n t:Value),(Value.int n t:Value)))).mpr ⟨e1,e1⟩];rfl
 intro i j hij hj;rw[pairsOf_size]at hj;obtain⟨n,e1,k1⟩:=kat i (by omega);obtain⟨m,e2,k2⟩:=kat j hj;rw[k1,k2];rcases Nat.lt_or_eq_of_le hij with c|c
 ·obtain⟨g1,q1⟩:=Gr.mp e1;obtain⟨g2,q2⟩:=Gr.mp e2;rw[<-q1,<-q2];exact HI.mp up i j g1 g2 c
 ·subst c;rw[e1]at e2;cases e2;exact HK _
theorem v9{a:Addr}{vs:List Value}{ns:List Int}{n:Nat}{P:PySem.Fin->Shared->Prop}(ho:s.heap.get? a=some (seqObj "list" vs.toArray n))(hI:IntsAre vs ns)(h64:vs.length<1000)(up:ns.Pairwise (·<=·))
  (h:∀(out:Array Value)(ns':List Int),IntsAre out.toList ns'->ns'.Perm ns->ns'.Pairwise (·<=·)->P (.done (.ret .none)) {s with heap:=sortedHeap s.heap a vs out}):
  wpAny (model prog w) A (Builtin.«list.sort» ⟨[.ref a],[]⟩) P E s:=by
 by_cases l64:vs.length<64
 ·exact list_sort_tree ho hI l64 h
 rw[list_sort_plain];have ha:a<s.heap.objs.size:=Gf ho;refine FZ (listItems_at ho rfl ?_);refine FZ (listUpdate_at ho rfl ?_ (by rw[Ga,Hm];omega) (GO _));obtain⟨e1,ho1⟩:∃e1,(s.heap.update a (Obj.mapSeq fun _=> #[])).get? a=some (seqObj "list" #[] e1):=⟨_,get?_update_seq ho (fun _=> #[])⟩;refine FZ (seqEpoch_at ho1 rfl ?_);refine FZ (wpAny_newTuple ?_ (by show vs.length<=_;rw[Hm];omega));refine FZ (wpAny_newList ?_ (GO _));refine G9 ?_;have ho6:(((s.heap.update a (Obj.mapSeq fun _=> #[])).push (seqObj "tuple" vs.toArray 0)).push (seqObj "list" #[] 0)).get? a=some (seqObj "list" #[] e1):=F0 _ (F0 _ ho1);show wpAny (model prog w) A _ P E {s with heap:=((s.heap.update a (Obj.mapSeq fun _=> #[])).push (seqObj "tuple" vs.toArray 0)).push (seqObj "list" #[] 0)};dsimp only;have h2:¬vs.toArray.size<2:=by rw[Ga];omega
 rw[F6 h2,F6 h2];have kk:keyKind' vs.toArray=pure oneType':=by
  match vs,h2,hI with
  | [],h2,_=>simp at h2
  | [_],h2,_=>simp at h2
  |v1::v2::rest,_,hI=>exact keyKind_ints hI
 rw[kk];refine FZ (F3 ?_);letI:=knI;haveI:vS prog w A E {s with heap:=((s.heap.update a (Obj.mapSeq fun _=> #[])).push (seqObj "tuple" vs.toArray 0)).push (seqObj "list" #[] 0)}:=Am;refine FZ (Gy (nA (a₀:=pairsOf vs) (st:=SortSt.mk' oneType' (vs.toArray.zip vs.toArray) #[] 7 none) (Q:=fun _ st'=>(arrOf st').Perm (pairsOf vs)/\failedOf st'=none/\SortedTo (arrOf st') (pairsOf vs).size) (fun p hp=>?_) (Array.Perm.refl _) rfl rfl rfl (by rw[pairsOf_size];omega) (.inr (sU hI up)) fun st' q1 q2 q3=>⟨q1,q2,q3⟩) ?_ fun _ _ e=>e)
 ·rw[pairsOf_toList]at hp;exact hI.all _ (mem_zip_self hp).2
 rintro⟨⟨⟩,st'⟩ s' ⟨rfl,hp,hf,hs⟩;dsimp only;obtain⟨ns',i1,i2,i3⟩:=sorted_out hI hp hs;refine FZ (seqEpoch_at ho6 rfl ?_);refine FZ (listUpdate_at ho6 rfl ?_ (GO _) (by rw[Array.size_map,hp.size_eq,pairsOf_size,Hm];omega));rw[hf];simp only[bne_self_eq_false,Hq,if_false];exact F3 (h _ ns' i1 i2 i3)
end
section
variable{X:Cx}
theorem wZ(hc:X.calm=true):dU X (.builtin "sorted") (fun xs H Q=>∃(p:Addr)(kvs:List (Key×V))(ns:List Int),xs=[.ref p]/\Rd H p (.dK kvs)/\(kvs.map fun q=>kV q.1)=ns.map V.int/\ns.length<1000/\ns.Pairwise (·<=·)/\∀(l:Addr)(ns':List Int),H l=none->ns'.Perm ns->ns'.Pairwise (·<=·)->Q (.ref l) (upd H l (.lst (ns'.map V.int)))):=by
 intro pins s σ H xs us Q I r h;obtain⟨p,kvs,ns,rfl,hx,hk,h64,up,q⟩:=h;obtain⟨u,rfl,ru⟩:=vals1 r;cases ru;have ho:bN X.prog X.w H s.heap p (.dK kvs):=by
  rcases hx with hx|⟨o,hx⟩
  ·exact I.hok p _ hx
  ·exact(I.hok p _ hx).2
 obtain⟨hz,hs,vs,rv,hD⟩:=ho;obtain⟨ep,hat⟩:=hD.dictAt;have hl:=rv.len;have hkl:=congrArg List.length hk;rw[FY,FY]at hkl;refine Calls.call_function_entry kind_sorted plain_sorted entry_sorted (args_sorted1 _) ?_;unfold Builtin.«sorted»;refine FZ (m:=checkCount "sorted" 1 1 _) (F3 ?_);refine FZ (PySem.W.kdu_collect (PySem.W.kdl_dict (knd:=ba X.prog X.w) (kvs:=vs) (ep:=ep) hs) (I.ok.hd hc) hat (by omega) fun h' tk acc hkeep hacc=>?_);have al:acc.toList.length=kvs.length:=by rw[Hj,hacc.1,hl]
 have va:=qh rv al fun j v e=>hacc.2 j v (by rw[<-Hl];exact e);rw[hk]at va;have I1:=I.kept (t':=tk) hkeep;refine FZ (wpAny_newList ?_ (by omega));have gD:(h'.push (seqObj "list" acc.toList.toArray 0)).get? h'.objs.size=some (seqObj "list" acc.toList.toArray 0):=Gm _ rfl;have fr:H h'.objs.size=none:=I1.hok.fresh (F4 _);refine FZ (G9 (wpAny_call_entry slot_list_sort ⟨_,gD,rfl⟩ entry_list_sort (v9 gD (intsAre_of va) (by omega) up fun out ns' hi pm so=>⟨_,rfl,?_⟩) (args_list_sort _)));obtain⟨e,he⟩:=sortedHeap_at (out:=out) gD;have pl':=pm.length_eq;refine F3 ⟨_,rfl,.ref _,_,I1.track (t':=tk) (n:=e) (its:=out.toList) (I1.fpOk (F4 _) fr) (fun b o hb z=>?_) (oR hi) (by rw[FY,Hm];omega) he,rfl,q _ ns' fr pm so⟩;have lt:=Gf z;rw[sortedHeap_old hb (by rw[size_push'];exact Nat.lt_succ_of_lt lt)];exact F0 _ z
end
section
variable{prog:Program}{w:World}{A:Around}{E:Value->Shared->Prop}{s:Shared}
theorem ye{a:Addr}{zs:AN}{n:Nat}{P:PySem.Fin->Shared->Prop}(ho:s.heap.get? a=some (seqObj "list" (vals zs).toArray n))(hz:∀z∈zs,w8 s.heap z.1 z.2)(nd:(zs.map (·.2)).Nodup)(one:CD zs)(h64:zs.length<64)
  (h:∀ys:AN,ys.Perm zs->(ys.map (·.2)).Pairwise leS->P (.done (.ret .none)) {s with heap:=sortedHeap s.heap a (vals zs) (vals ys).toArray}):
  wpAny (model prog w) A (Builtin.«list.sort» ⟨[.ref a],[]⟩) P E s:=by
 rw[list_sort_plain];have ha:a<s.heap.objs.size:=Gf ho;have lz:(vals zs).length=zs.length:=FY ..;refine FZ (listItems_at ho rfl ?_);refine FZ (listUpdate_at ho rfl ?_ (by rw[Ga,lz,Hm];omega) (GO _));obtain⟨e1,ho1⟩:∃e1,(s.heap.update a (Obj.mapSeq fun _=> #[])).get? a=some (seqObj "list" #[] e1):=⟨_,get?_update_seq ho (fun _=> #[])⟩;refine FZ (seqEpoch_at ho1 rfl ?_);refine FZ (wpAny_newTuple ?_ (by show(vals zs).length<=_;rw[lz,Hm];omega));refine FZ (wpAny_newList ?_ (GO _));refine G9 ?_;have ho6:(((s.heap.update a (Obj.mapSeq fun _=> #[])).push (seqObj "tuple" (vals zs).toArray 0)).push (seqObj "list" #[] 0)).get? a=some (seqObj "list" #[] e1):=F0 _ (F0 _ ho1);have hz6:∀z∈zs,w8 (((s.heap.update a (Obj.mapSeq fun _=> #[])).push (seqObj "tuple" (vals zs).toArray 0)).push (seqObj "list" #[] 0)) z.1 z.2:=fun z mz=>by
  obtain⟨o,its,n',t,f1,f2,f3,f4⟩:=hz z mz;have na:z.1≠a:=fun w=>by rw[w,ho]at f1;cases f1;have f2':Value.type "list"=Value.type "tuple":=f2;exact absurd f2' (by decide)
  exact⟨o,its,n',t,F0 _ (F0 _ (((Heap.SameBut.update s.heap a _).2 z.1 na).trans f1)),f2,f3,f4⟩
 show wpAny (model prog w) A _ P E {s with heap:=((s.heap.update a (Obj.mapSeq fun _=> #[])).push (seqObj "tuple" (vals zs).toArray 0)).push (seqObj "list" #[] 0)};dsimp only;have pz:(pairsOf (vals zs)).toList=zs.map fun z=>((.ref z.1,.ref z.1):Keyed):=by rw[pairsOf_toList];unfold vals;rw[List.zip_map']
 have outL:∀{ar:Array Keyed}{ys:AN},ar.toList=ys.map (fun z=>((.ref z.1,.ref z.1):Keyed))->ar.map (·.2)=(vals ys).toArray:=fun {ar ys} e=>by apply Array.ext';rw[Array.toList_map,e,List.map_map];rfl
 by_cases h2:(vals zs).toArray.size<2
 ·rw[F8 h2,F8 h2];refine FZ (F3 ?_);rw[StateT.run_pure];refine FZ (F3 ?_);dsimp only;refine FZ (seqEpoch_at ho6 rfl ?_);have eo:=outL (ar:=pairsOf (vals zs)) (ys:=zs) pz;refine FZ (listUpdate_at ho6 rfl ?_ (GO _) (by show((pairsOf (vals zs)).map (·.2)).size<=_;rw[eo,Ga,lz,Hm];omega));simp only[bne_self_eq_false,Hq,if_false];refine F3 ?_;show P _ {s with heap:=(((s.heap.update a (Obj.mapSeq fun _=> #[])).push (seqObj "tuple" (vals zs).toArray 0)).push (seqObj "list" #[] 0)).update a (Obj.mapSeq fun _=>(pairsOf (vals zs)).map (·.2))};rw[eo];refine h zs (.refl _) ?_;rw[Ga,lz]at h2
  match zs,h2 with
  | [],_=>exact .nil
  | [z],_=>exact List.pairwise_singleton _ _
 ·rw[F6 h2,F6 h2];rw[Ga,lz]at h2;refine FZ (Aq hz6 (fun w=>h2 (by rw[w];decide)) ?_);letI:=DL zs;haveI:vS prog w A E {s with heap:=((s.heap.update a (Obj.mapSeq fun _=> #[])).push (seqObj "tuple" (vals zs).toArray 0)).push (seqObj "list" #[] 0)}:=Al hz6 nd one (fun v=>by simp);refine FZ (Gy (nA (a₀:=pairsOf (vals zs)) (st:=SortSt.mk' (tuples' true) ((vals zs).toArray.zip (vals zs).toArray) #[] 7 none) (Q:=fun _ st'=>(arrOf st').Perm (pairsOf (vals zs))/\failedOf st'=none/\SortedTo (arrOf st') (pairsOf (vals zs)).size) (fun p hp=>?_) (Array.Perm.refl _) rfl rfl rfl (by rw[pairsOf_size,lz];omega) (.inl (by rw[pairsOf_size,lz];omega)) fun st' q1 q2 q3=>⟨q1,q2,q3⟩) ?_ fun _ _ e=>e)
  ·rw[pz]at hp;obtain⟨z,mz,rfl⟩:=Ge.mp hp;exact⟨z,mz,rfl⟩
  rintro⟨⟨⟩,st'⟩ s' ⟨rfl,hp,hf,hs⟩;dsimp only;obtain⟨ys,py,ey⟩:=uU (f:=fun z:Addr×Str=>((.ref z.1,.ref z.1):Keyed)) (zs:=zs) (l:=(arrOf st').toList) (by rw[<-pz];exact Array.perm_iff_toList_perm.mp hp);have eo:=outL ey;have ly:(vals ys).length=zs.length:=by rw[vals,FY];exact py.length_eq
  refine FZ (seqEpoch_at ho6 rfl ?_);refine FZ (listUpdate_at ho6 rfl ?_ (GO _) (by show((arrOf st').map (·.2)).size<=_;rw[eo,Ga,ly,Hm];omega));rw[hf];simp only[bne_self_eq_false,Hq,if_false];refine F3 ?_;rw[eo];refine h ys py ?_;rw[HI];intro i j hi hj hij;rw[FY]at hi hj;have sz:(pairsOf (vals zs)).size=ys.length:=by rw[pairsOf_size,lz];exact py.length_eq.symm
  have le:=hs i j (Nat.le_of_lt hij) (by rw[sz];exact hj);have at_:∀k(hk:k<ys.length),K (arrOf st') k=(rank zs (ys[k]'hk).2:Int):=fun k hk=>by unfold K;rw[<-Hl,ey,Gn,Gh hk];show((rank zs (nameAt zs (ys[k]'hk).1):Nat):Int)=_;rw[m4 one (py.mem_iff.mp (Hv hk))]
  rw[at_ i hi,at_ j hj]at le;rw[List.getElem_map,List.getElem_map];unfold leS;rw[ltCps_eq];refine Gw fun w=>?_;have:=sY (py.mem_iff.mp (Hv hj)) (y:=(ys[i]'hi).2) (Gp w);omega
end
section
variable{X:Cx}
theorem wY:dU X (.builtin "sorted") (fun xs H Q=>∃(p:Addr)(zs:AN),xs=[.ref p]/\SqL X.K H p (zs.map fun z=>V.ref z.1)/\(∀z∈zs,∃r,SqT X.K H z.1 (.str z.2::r))/\(zs.map (·.2)).Nodup/\zs.length<64/\
  ∀(l:Addr)(ys:AN),H l=none->ys.Perm zs->(ys.map (·.2)).Pairwise leS->Q (.ref l) (upd H l (.lst (ys.map fun z=>V.ref z.1)))):=by
 intro pins s σ H xs us Q I r h;obtain⟨p,zs,rfl,hx,hz,nd,h64,q⟩:=h;obtain⟨u,rfl,ru⟩:=vals1 r;cases ru;obtain⟨vs,rv,pl,hzl⟩:=I.list hx;have refs:∀{ys:AN}{us:List Value},Vals (ys.map fun z=>V.ref z.1) us->us=vals ys:=by
  intro ys
  induction ys with
  |nil=>intro us r;cases r;rfl
  |cons z ys ih=>
   intro us r;rw[F9]at r;cases r with
   |cons a b=>cases a;rw[ih b];rfl
 have valsR:∀ys:AN,Vals (ys.map fun z=>V.ref z.1) (vals ys):=by
  intro ys
  induction ys with
  |nil=>exact .nil
  |cons z ys ih=>exact .cons rfl ih
 obtain rfl:=refs rv;have tn:∀z∈zs,w8 s.heap z.1 z.2:=fun z mz=>by
  obtain⟨r,hr⟩:=hz z mz;obtain⟨its,rv',⟨o,e1,e2,n,e3⟩,_⟩:=I.tuple hr;cases rv' with
  |cons a b=>obtain⟨t,rfl⟩:=a;exact⟨o,_,n,t,e1,e2,e3,rfl⟩
 have one:CD zs:=fun z mz y my e=>by obtain⟨r1,h1⟩:=hz z mz;obtain⟨r2,h2⟩:=hz y my;rw[e]at h1;have:=I.tuple_inj h1 h2;exact V.str.inj (List.cons.inj this).1
 have lz:(vals zs).length=zs.length:=FY ..;refine Calls.call_function_entry kind_sorted plain_sorted entry_sorted (args_sorted1 _) ?_;unfold Builtin.«sorted»;refine FZ (m:=checkCount "sorted" 1 1 _) (F3 ?_);refine FZ (collect_list pl.isList ?_ (by rw[lz,Hm];omega));refine FZ (wpAny_newList ?_ (by show(vals zs).length<=_;rw[lz,Hm];omega));have hsz:((s.heap.push (seqObj "list" #[] 0)).update s.heap.objs.size (Obj.mapSeq (·++(vals zs).toArray))).objs.size=s.heap.objs.size+1:=by rw[Heap.size_update,size_push']
 have hoL:(((s.heap.push (seqObj "list" #[] 0)).update s.heap.objs.size (Obj.mapSeq (·++(vals zs).toArray))).push (seqObj "list" (vals zs).toArray 0)).get? (s.heap.objs.size+1)=some (seqObj "list" (vals zs).toArray 0):=by rw[<-hsz];exact Gm _ rfl
 have kp:∀b o,s.heap.get? b=some o->(((s.heap.push (seqObj "list" #[] 0)).update s.heap.objs.size (Obj.mapSeq (·++(vals zs).toArray))).push (seqObj "list" (vals zs).toArray 0)).get? b=some o:=fun b o e=>F0 _ (((Heap.SameBut.update _ s.heap.objs.size _).2 b (Gz (Gf e))).trans (F0 _ e))
 show wpAny _ _ _ _ _ {s with heap:=((s.heap.push (seqObj "list" #[] 0)).update s.heap.objs.size (Obj.mapSeq (·++(vals zs).toArray))).push (seqObj "list" (vals zs).toArray 0)};rw[hsz];refine FZ (G9 (wpAny_call_entry slot_list_sort ⟨_,hoL,rfl⟩ entry_list_sort (ye hoL (fun z mz=>?_) nd one h64 fun ys py so=>⟨_,rfl,?_⟩) (args_list_sort _)))
 ·obtain⟨o,its,n,t,e1,e2,e3,e4⟩:=tn z mz;exact⟨o,its,n,t,kp _ _ e1,e2,e3,e4⟩
 refine F3 ⟨_,rfl,?_⟩;obtain⟨e,he⟩:=sortedAll_at s.heap (vals zs) (vals ys).toArray;have fr:H (s.heap.objs.size+1)=none:=I.hok.fresh (Nat.le_succ _);have ly:=py.length_eq;exact⟨.ref _,_,I.track (t':=s.toks) (n:=e) (its:=vals ys) (I.fpOk (Nat.le_succ _) fr) (fun b o _ z=>sortedAll_old z) (valsR ys) (by rw[FY,Hm];omega) he,rfl,q _ ys fr py so⟩
end
end LT
namespace L2
open PySem PySem.W
theorem fm{g:(St->Hp->Prop)->Prop}{t:TS}{D:Ends}(k:let D':=D;g fun σ2 H2=>t D' σ2 H2):g (fun σ2 H2=>t D σ2 H2):=k
theorem eJ{t:TS}{D:Ends}{σ:St}{H:Hp}(k:let D':=D;t D' σ H):t D σ H:=k
theorem fo{g:(St->Hp->Prop)->Prop}{tt:TT}{te:TE}{q:VK}{r:Hp->Prop}(k:let q':=q;let r':=r;g fun σ2 H4=>tt σ2 H4 fun b H5=>if b=true then te σ2 H5 q' else r' H5):g (fun σ2 H4=>tt σ2 H4 fun b H5=>if b=true then te σ2 H5 q else r H5):=k
noncomputable def EB:Stmt->List Stmt
 | .For _ _ b _ _=>b
 | .While _ b _ _=>b
 |_=>[]
theorem bR{X:Cx}{body:List Stmt}{Z:TS->Prop}(k j:Nat){u:TS}(r:PSs X ((EB (body.getD k (.Pass ⟨0,0,0,0⟩))).drop j) u)(h:let R:=u;PSs X ((EB (body.getD k (.Pass ⟨0,0,0,0⟩))).drop j) R->∃t,PSs X body t/\Z t):∃t,PSs X body t/\Z t:=h r
end L2
namespace L2
open PySem PySem.Spec PyProof.Rows LM
def PlF(K:Frag)(H:Hp)(v:V)(p:Plt):Prop:=∃l ls lr,v=.ref l/\SqT K H l [.int (p.g:Nat),.ref ls,.ref lr,.int p.last]/\ShF K H ls p.S/\StrT K H lr p.R
theorem PlF.tk{K:Frag}{H H':Hp}{v:V}{p:Plt}(t:TK H H')(h:PlF K H v p):PlF K H' v p:=by obtain⟨l,ls,lr,e,h1,h2,h3⟩:=h;exact⟨l,ls,lr,e,t.sq h1,h2.tk t,h3.tk t⟩
theorem PlF.e{K:Frag}{H:Hp}{v:V}{p:Plt}(h:PlF K H v p):PlE K H v p:=by obtain⟨l,ls,lr,e,h1,h2,h3⟩:=h;exact⟨l,ls,lr,e,h1,h2.t,h3⟩
theorem mv{K:Frag}{H:Hp}{c:Nat}:∀{xs:List V}{ps:List Plt},Paired (PlF K H) xs ps->
  (cS xs (ps.map (·.g)) c=.non/\fnd ps c=none)\/∃v p,cS xs (ps.map (·.g)) c=v/\v≠ .non/\fnd ps c=some p/\PlF K H v p/\p∈ps
 |_,_,.nil=>.inl ⟨rfl,rfl⟩
 |_,_,.cons (a:=x) (b:=p) (l₁:=xs) (l₂:=ps) h t=>by
  by_cases z:p.g.testBit c=true
  ·refine .inr ⟨x,p,?_,?_,?_,h,F7 ..⟩
   ·show(if p.g.testBit c=true then x else _)=x;rw[F8 z]
   ·obtain⟨l,ls,lr,e,_⟩:=h;rw[e];exact fun w=>nomatch w
   ·show List.find? _ (p::ps)=_;simp[GJ,z]
  ·have e1:cS (x::xs) ((p::ps).map (·.g)) c=cS xs (ps.map (·.g)) c:=by
    show(if p.g.testBit c=true then x else _)=_;rw[F6 z]
   have e2:fnd (p::ps) c=fnd ps c:=by show List.find? _ (p::ps)=_;simp[GJ,z,fnd]
   rw[e1,e2];rcases mv t with h|⟨v,q,h1,h2,h3,h4,h5⟩
   ·exact .inl h
   ·exact .inr ⟨v,q,h1,h2,h3,h4,F1 _ h5⟩
theorem tG{K:Frag}{H:Hp}{xs:List V}{ps:List Plt}(h:Paired (PlF K H) xs ps):Paired (HdE K H) xs (ps.map (·.g)):=Dt (Paired.imp (fun _ _ y=>PlF.e y) h)
theorem tI{X:Cx}{K:Frag}{e:Expr}{f:Str}{pos:Pos}{ta:TE}(hK:X.K=K)(he:PE X e ta)(hb:attributeBase e f X.env (eval e X.env)=eval e X.env):PE X (.Attribute e f pos) (Eu K ta f):=by subst hK;exact jE he hb
theorem vA{K:Frag}{mg:Str->Option Value}{CF y:Addr}{H0 Hc:Hp}{E:XK}{tv v u:V}(z:eD mg "Falls" CF)(xc:oq K CF)(hy:Hc y=some (XC y))(s:aw H0 Hc)
  (e:∀dx H',aw Hc H'->H' dx=some (XD dx [("who",u),("word",v)])->E (kf mg "Falls") (some dx) H'):
  ∀x,Hc x=none->Bm CF "word" "who" [.ref x,tv,v,u] (upd Hc x (XO x CF none)) (fun v' H2=>v'=.non/\∃x' C od,V.ref x=.ref x'/\H2 x'=some (XO x' C od)/\y≠x'/\H2 y=some (XC y)/\oq K C/\RzW H0 E x' (.ref C) od H2) E0:=by
 intro x hx;obtain⟨x',tv',v',u',e1,h1,k⟩:=oJ (tv:=tv) z xc s e x hx;cases e1;refine⟨x,tv,v,u,rfl,af,fun dx hd ne=>?_⟩;obtain⟨_,x',C,od,ex,a,b⟩:=k dx hd ne;cases ex;have ny:y≠x:=fun w=>by rw[w,hx]at hy;cases hy
 refine⟨rfl,x,C,od,rfl,a,ny,?_,b⟩;have nd:y≠dx:=fun w=>by rw[<-w,az ny,hy]at hd;cases hd
 rw[az nd,az ny,az ny];exact hy
structure gZ where
 c:Nat
 gv:Str
 tk:Str
 t:Int
 b:Int
 gr:Int
noncomputable def om(num since:Int)(sg pa:Addr)(G:gZ)(tr:V):List (Str×V):=[("number",.int num),("since",.int since),("signed",.ref sg),("at",.int G.c),("giver",.str G.gv),("taker",.str G.tk),("part",.ref pa),("ground",.int G.gr),("trust",tr)]
noncomputable def Dn(t:V)(num since:Int)(sg pa:Addr)(G:gZ):List V:=[t,.int num,.int since,.ref sg,.int G.c,.str G.gv,.str G.tk,.ref pa,.int G.gr]
structure vT(K:Frag)(mg:Str->Option Value)(C:Addr):Prop where
 mgG:mg "Give"=some (.ref C)
 pap:x4 K mg C
 at':bu K C "at"
 gv:bu K C "giver"
 tk:bu K C "taker"
 pt:bu K C "part"
 gr:bu K C "ground"
 tr:bu K C "trust"
noncomputable def nv(since:Int)(tk:Str)(r:List Key):Bool:=(decide (CS r=("buy":Str))||(decide (CS r=("note":Str))&&decide (since<=Fi r)))&&decide (wN r≠tk)
theorem A3{since:Int}{tk k x:Str}{n m un:Int}:nv since tk [.inl n,.inr k,.inr x,.inl m,.inl un]=((decide (V.str k=V.str "buy")||(decide (V.str k=V.str "note")&&decide (since<=un)))&& !decide (V.str x=V.str tk)):=by
 have d:∀a b:Str,decide (V.str a=V.str b)=decide (a=b):=fun a b=>by rw[Hz,GR,GR];exact⟨V.str.inj,congrArg V.str⟩
 have e:nv since tk [.inl n,.inr k,.inr x,.inl m,.inl un]=((decide (k=("buy":Str))||(decide (k=("note":Str))&&decide (since<=un)))&&decide (x≠tk)):=rfl;rw[e,d,d,d,decide_not]
noncomputable def de(since:Int)(tk:Str)(T:Col):List Str:=(T.filter (nv since tk)).map wN
structure ShG(S:Sh):Prop where
 ok:nz S
 len:S.length<=50
 bd:ShB 900 S
structure nW(G:gZ):Prop where
 c:G.c<=64
 gv:PyData.canLay0 (.str G.gv)=true
 b:0<G.b
 t:0<G.t
 bt:Bd 900 G.t
 bb:Bd 900 G.b
def ltG(p:Plt)(G:gZ):Prop:=(aG p.S G.gv).1*G.b<G.t*(aG p.S G.gv).2
noncomputable def c7(p:Plt)(G:gZ):Sh:=iF p.S G.gv G.tk (G.t,G.b)
open Classical in
def mG(p:Plt)(G:gZ)(num since:Int)(sg:List Str)(o:rC):Prop:=
 ∃T,mF (p.R.map (·.2)) T/\match ft sg (G.gv::de since G.tk T)with
  |some x=>o=.falls "sign" x
  |none=>if ltG p G then o=.falls "share" "" else ∃ss,ss.Perm ((c7 p G).map (·.1))/\sortedS ss=true/\if ∃q∈bY (c7 p G) ss,FIN<q.2.2 then o=.falls "fine" "" else o=.does p ⟨p.g,bY (c7 p G) ss,p.R,num⟩
open Classical in
def g4(ps:List Plt)(G:gZ)(num since:Int)(sg:List Str)(o:rC):Prop:=
 match fnd ps G.c with
 |none=>o=.falls "waste" ""
 |some p=>if G.gr≠0/\G.gr≠(p.g:Int)then o=.falls "other" "" else mG p G num since sg o
theorem mG.uniq{p:Plt}{G:gZ}{num since:Int}{sg:List Str}{o o':rC}(a:mG p G num since sg o)(b:mG p G num since sg o'):o=o':=by
 obtain⟨T,hT,a⟩:=a;obtain⟨T',hT',b⟩:=b;obtain rfl:T=T':=hT.uniq hT';cases h2:ft sg (G.gv::de since G.tk T)with
 |some x=>rw[h2]at a b;exact Eq.trans a b.symm
 |none=>
  rw[h2]at a b;dsimp only at a b;by_cases h3:ltG p G
  ·rw[F8 h3]at a b;rw[a,b]
  ·rw[F6 h3]at a b;obtain⟨ss,p1,s1,a⟩:=a;obtain⟨ss',p2,s2,b⟩:=b;obtain rfl:ss=ss':=uH (p1.trans p2.symm) s1 s2;by_cases h4:∃q∈bY (c7 p G) ss,FIN<q.2.2
   ·rw[F8 h4]at a b;rw[a,b]
   ·rw[F6 h4]at a b;rw[a,b]
theorem g4.uniq{ps:List Plt}{G:gZ}{num since:Int}{sg:List Str}{o o':rC}(a:g4 ps G num since sg o)(b:g4 ps G num since sg o'):o=o':=by
 unfold g4 at a b;cases h:fnd ps G.c with
 |none=>rw[h]at a b;exact Eq.trans a b.symm
 |some p=>
  rw[h]at a b;dsimp only at a b;by_cases h1:G.gr≠0/\G.gr≠(p.g:Int)
  ·rw[F8 h1]at a b;rw[a,b]
  rw[F6 h1]at a b;exact a.uniq b
theorem g4.rev{ps:List Plt}{G:gZ}{num since:Int}{sg:List Str}{o:rC}(ap:(ps.map (·.g)).Pairwise Dis)(h:g4 ps.reverse G num since sg o):g4 ps G num since sg o:=by unfold g4 at h ⊢;rwa[Ck ap]at h
section
variable{ps:List Plt}{p:Plt}{G:gZ}{num since:Int}{sg:List Str}
theorem g4.waste(h:fnd ps G.c=none):g4 ps G num since sg (.falls "waste" ""):=by unfold g4;rw[h]
theorem g4.other(h:fnd ps G.c=some p)(h1:G.gr≠0)(h2:G.gr≠(p.g:Int)):g4 ps G num since sg (.falls "other" ""):=by unfold g4;rw[h];exact(F8 ⟨h1,h2⟩).mpr rfl
theorem g4.of{o:rC}(h:fnd ps G.c=some p)(h1:G.gr=0\/G.gr=(p.g:Int))(k:mG p G num since sg o):g4 ps G num since sg o:=by unfold g4;rw[h];dsimp only;rw[F6 (fun y=>h1.elim y.1 y.2)];exact k
theorem mG.sign{T:Col}{x:Str}(h1:mF (p.R.map (·.2)) T)(h2:ft sg (G.gv::de since G.tk T)=some x):mG p G num since sg (.falls "sign" x):=⟨T,h1,by rw[h2]⟩
theorem mG.share{T:Col}(h1:mF (p.R.map (·.2)) T)(h2:ft sg (G.gv::de since G.tk T)=none)(h3:ltG p G):mG p G num since sg (.falls "share" ""):=⟨T,h1,by rw[h2];exact(F8 h3).mpr rfl⟩
theorem mG.fine{T:Col}{ss:List Str}(h1:mF (p.R.map (·.2)) T)(h2:ft sg (G.gv::de since G.tk T)=none)(h3:¬ltG p G)(pm:ss.Perm ((c7 p G).map (·.1)))(so:sortedS ss=true)(h4:∃q∈bY (c7 p G) ss,FIN<q.2.2):mG p G num since sg (.falls "fine" ""):=
 ⟨T,h1,by rw[h2];dsimp only;rw[if_neg h3];exact⟨ss,pm,so,by rw[if_pos h4]⟩⟩
theorem mG.does{T:Col}{ss:List Str}(h1:mF (p.R.map (·.2)) T)(h2:ft sg (G.gv::de since G.tk T)=none)(h3:¬ltG p G)(pm:ss.Perm ((c7 p G).map (·.1)))(so:sortedS ss=true)(h4:¬∃q∈bY (c7 p G) ss,FIN<q.2.2):mG p G num since sg (.does p ⟨p.g,bY (c7 p G) ss,p.R,num⟩):=
 ⟨T,h1,by rw[h2];dsimp only;rw[if_neg h3];exact⟨ss,pm,so,by rw[if_neg h4]⟩⟩
end
theorem g4.pln{ps:List Plt}{rs:List (List Key)}{G:gZ}{num since:Int}{sg:List Str}{o:rC}(hG:∀p∈ps,PlG rs p)(hp:∀p∈ps,Pln (plD p))(hS:∀p∈ps,p.S.length<=50)(h:g4 ps G num since sg o):Pln (outD o):=by
 unfold g4 at h;cases e:fnd ps G.c with
 |none=>rw[e]at h;rw[show o=_ from h];exact jB _ _
 |some p=>
  have m:=(ud e).1;rw[e]at h;dsimp only at h;split at h
  ·rw[h];exact jB _ _
  obtain⟨T,_,h⟩:=h;split at h
  ·rw[h];exact jB _ _
  split at h
  ·rw[h];exact jB _ _
  obtain⟨ss,pm,_,h⟩:=h;split at h
  ·rw[h];exact jB _ _
  rw[h];obtain⟨f,hf,_⟩:=(hG p m).st;refine BF (hp p m) (BG ?_ hf fun i c hi ec=>?_)
  ·have a:=oS (c7 p G) ss;have b:=pm.length_eq;rw[FY]at b;have d:=jW p.S G.gv G.tk (G.t,G.b);have d':(c7 p G).length<=p.S.length+2:=d;have:=hS p m;omega
  ·have g:=B6 (hG p m) hf i c hi ec;exact⟨by have:=g.2.2;omega,fun r hr=>(g.1 r hr).An⟩
theorem B4{p:Plt}{G:gZ}{ss:List Str}(hok:nz p.S)(hG:nW G)(hn:¬ltG p G)(pm:ss.Perm ((c7 p G).map (·.1))):0<(fh (c7 p G) ss).length:=by
 have ag:=hok.at G.gv;have hok1:=hok.put G.gv (jS (f:=aG p.S G.gv) (g:=(G.t,G.b)) ag.1.pos hG.b) (me (f:=aG p.S G.gv) (g:=(G.t,G.b)) ag.1.pos hG.b hn);have e:c7 p G=eF (eF p.S G.gv (cq (aG p.S G.gv) (G.t,G.b))) G.tk (je (aG (eF p.S G.gv (cq (aG p.S G.gv) (G.t,G.b))) G.tk) (G.t,G.b)):=rfl;generalize eF p.S G.gv (cq (aG p.S G.gv) (G.t,G.b))=S1 at hok1 e;have ak:=hok1.at G.tk
 have m1:G.tk∈ss:=pm.mem_iff.mpr (by
  rw[e,kI];split
  ·assumption
  ·exact Gx _ (F2.mpr rfl))
 have p1:0<(aG (c7 p G) G.tk).1:=by rw[e,zx,F8 rfl];exact oF (Int.lt_of_lt_of_le (HJ hG.t ak.1.pos) (Int.le_add_of_nonneg_left (Int.mul_nonneg ak.2 (He hG.b)))) (HJ ak.1.pos hG.b)
 have:(G.tk,aG (c7 p G) G.tk)∈fh (c7 p G) ss:=Hy.mpr ⟨Ge.mpr ⟨_,m1,rfl⟩,Gp p1⟩;exact List.length_pos_of_mem this
theorem A2{since:Int}{tk:Str}{T:Col}{i:Nat}{r:List Key}(h:T[i]?=some r):de since tk (T.take (i+1))=de since tk (T.take i)++(if nv since tk r=true then[wN r]else[]):=by
 unfold de;rw[GI,h,GX,Ho,Gk];by_cases z:nv since tk r=true
 ·rw[F8 z,List.filter_cons_of_pos z];rfl
 ·rw[F6 z,List.filter_cons_of_neg z];rfl
theorem E7(a b:Str):PyData.eqv (.str a) (.str b)=decide (a=b):=by
 first
 |rfl
 |(rw[Hz];simp[PyData.eqv])
theorem vw{x:Str}:∀{N:List Str},x∈N->∃j,j<N.length/\N[j]?=some x/\∀m y,m<j->N[m]?=some y->y≠x
 | [],h=>nomatch h
 |y::N,h=>by
  by_cases z:y=x
  ·exact⟨0,Nat.zero_lt_succ _,by rw[z];rfl,fun m _ hm=>absurd hm (Nat.not_lt_zero _)⟩
  ·obtain⟨j,h1,h2,h3⟩:=vw (N:=N) ((Gg.mp h).resolve_left fun e=>z e.symm);refine⟨j+1,Nat.succ_lt_succ h1,h2,fun m w hm hw=>?_⟩;cases m with
   |zero=>cases hw;exact z
   |succ m=>exact h3 m w (Nat.lt_of_succ_lt_succ hm) hw
theorem GS.shG{ss:List Str}{S:Sh}(h:GS ss S)(l6:ss.length<=50):ShG S:=⟨h.shok,GA h.len l6,fun p hp=>⟨(h.bd hp).1.mono (by decide),(h.bd hp).2.mono (by decide)⟩⟩
end L2
namespace My
open PySem L2 LM PyProof.Rows
noncomputable abbrev Pg:Program:=PySem.Challenge.rw_landroll_k45_gives.prog
noncomputable def top(i:Nat):Stmt:=PySem.Challenge.pw_landroll_k45_gives.main.body.getD i (.Pass ⟨0,0,0,0⟩)
noncomputable abbrev dY:Stmt:=(gE (top 13)).getD 0 (.Pass ⟨0,0,0,0⟩)
noncomputable abbrev eR:Stmt:=(gE (top 13)).getD 2 (.Pass ⟨0,0,0,0⟩)
noncomputable abbrev cG:Stmt:=(gE (top 38)).getD 3 (.Pass ⟨0,0,0,0⟩)
noncomputable abbrev eV:Stmt:=(gE (top 38)).getD 0 (.Pass ⟨0,0,0,0⟩)
noncomputable abbrev eU:Stmt:=(gE (top 38)).getD 4 (.Pass ⟨0,0,0,0⟩)
noncomputable abbrev fM:Stmt:=(gE (top 38)).getD 5 (.Pass ⟨0,0,0,0⟩)
noncomputable abbrev cY:Stmt:=(gE (top 38)).getD 7 (.Pass ⟨0,0,0,0⟩)
noncomputable abbrev hJ:Stmt:=(gE (top 38)).getD 9 (.Pass ⟨0,0,0,0⟩)
section
set_option maxHeartbeats 4000000
local macro_rules
 | `(tactic|trivial)=> `(tactic|first|exact Or.inl rfl|exact Or.inr rfl|decide+kernel|exact⟨rfl,rfl,rfl,by decide+kernel,rfl,by decide+kernel,by decide+kernel⟩)
variable{P:Program}{w:World}{K:Frag}{mg:Str->Option Value}{base:Heap}
noncomputable abbrev t9:Stmt:=(gE (top 5)).getD 0 (.Pass ⟨0,0,0,0⟩)
theorem yh:aD ["self","text","word","who"] ["self","text","word","who"] (aq t9):=by trivial
theorem yp{bc ik:Addr}(T:TxX K mg "Falls" bc t9 ["self","text","word","who"] "Falls.__init__")(jJ:CH K mg "LandError" ik)(iO:A8 K bc "word")(jk:A8 K bc "who"):yW P w K mg base 1 "Falls" bc ["self","text","word","who"] (Bm bc "word" "who"):=by
 refine T.dfM yh (fun vs H Q E h=>?_) (fun f _ A _ s H vs Q E M hr h=>?_)
 ·obtain⟨x,tv,v0,v1,rfl,hx,q⟩:=h;rfl
 ·obtain⟨x,tv,v0,v1,rfl,hx,q⟩:=h;refine⟨_,(aj (cZ (zS jJ (aa (pv 0) (aa (pv 1) ah)))) (aj (xr (pv 0) (pv 2)) (ao (xr (pv 0) (pv 3))))),?_⟩;refine⟨_,rfl,_,rfl,x,bc,f,[tv],rfl,aP rfl,hx,M.ok,_,rfl,_,rfl,x,bc,rfl,iO,.inl ⟨hx,fun dx hd ne=>⟨_,rfl,_,rfl,x,bc,rfl,jk,.inr ⟨dx,_,Bh ne,af,(by decide:(1:Nat)<=100),by rw[bq];exact q dx hd ne⟩⟩⟩⟩
variable{bW cz aL bc bA:Addr}
variable(B:Bn mg)
variable(cW:eD mg "Paper" bW)
variable(vN:mg "abs"=none)
variable(mq:∃t,mg "FINEST"=some (.int 1000000000000000000000000000000000000000000000000000000000000 t))
variable(xY:mg "any"=none)
variable(cJ:jN K mg "TooFine" cz)
variable(fF:∃p,mg "NONE"=some (.ref p)/\∀H,SqT K H p [V.int 0,V.int 1])
variable(bI:eD mg "Give" aL)
variable(d5:CI K mg "Paper" bW "__init__")
variable(vM:mg "sum"=none)
variable(dO:yW P w K mg base 1 "Falls" bc ["self","text","word","who"] (Bm bc "word" "who"))
variable(cA:eD mg "Falls" bc)
variable(cB:oq K bc)
variable(bP:jN K mg "TooLittle" bA)
variable(m_TooLittle_TooLittle:mroIn K bA (.ref bA)=some true)
variable(m_TooFine_TooFine:mroIn K cz (.ref cz)=some true)
variable(o_TooFine_TooLittle:mroIn K cz (.ref bA)=some false)
variable(mn:A7 K mg "Falls" bc)
variable(gq:RdX K bc "word")
variable(hU:RdX K bc "who")
variable(i9:mg "reversed"=none)
variable(qj:MkC K mg "Give" aL)
variable(ur:Cls K aL)
variable(cO:bu K aL "number")
variable(dv:bu K aL "since")
variable(cN:bu K aL "signed")
variable(fK:bu K aL "at")
variable(dw:bu K aL "giver")
variable(du:bu K aL "taker")
variable(dZ:bu K aL "part")
variable(cP:bu K aL "ground")
variable(dq:bu K aL "trust")
variable(eW:findIn K (.ref aL) "wanting"=findIn K (.ref bW) "wanting")
def zq(K:Frag):Sp:=fun vs H Q _=>∃(c:Nat)(k:Int),vs=[.int c,.int k]/\Q (.bl (decide (0<=k)&&c.testBit k.toNat)) H
variable(xV:Df P w K mg base 1 "has" ["cells","cell"] (zq K))
theorem Dm:aD ["cells","cell"] ["cells","cell"] (aq (top 7)):=by trivial
include B in
theorem DC(T:Tx K mg "has" (top 7) ["cells","cell"]):Df P w K mg base 1 "has" ["cells","cell"] (zq K):=by
 refine T.df Dm (by rintro _ _ _ _ ⟨c,k,rfl,q⟩;rfl) ?_;rintro f _ A _ s H _ Q E hr ⟨c,k,rfl,q⟩;refine⟨_,(ao (aH (mQ (bJ zZ (pv 1) ae (aI _)) (iT (bJ ck (au Ab (au Dz (pv 0) (pv 1)) ae) ae (aI _)))))),?_⟩;refine⟨_,rfl,_,_,rfl,rfl,_,rfl,?_⟩;refine bj (fun h0=>?_) (fun h0=>?_)
 ·have h0':0<=k:=Gu h0;refine⟨_,rfl,_,rfl,_,_,rfl,rfl,h0',_,_,rfl,rfl,rfl,?_⟩;rw[DU c k h0'];exact q
 ·have e:decide (0<=k)=false:=by simpa using h0
  rw[e]at q;exact q
def kq(K:Frag):Sp:=fun vs H Q _=>∃(l:Addr)(xs:List V)(C:List Col)(rs:List (List Key)),vs=[.ref l]/\SqL K H l xs/\Paired (yX K H) xs C/\(∀c∈C,∀r∈c,r∈rs)/\rs.length<=59/\(∀r∈rs,fE r)/\(rs.map bh).Nodup/\∀(a:Addr)(T:Col)(H':Hp),aw H H'->mF C T->eO K H' a T->Q (.ref a) H'
variable(gC:Df P w K mg base 1 "burdens_in" ["columns"] (kq K))
theorem fL:aD ["columns","found","column","burden"] ["columns"] (aq (top 9)):=by trivial
include B in
theorem rh(T:Tx K mg "burdens_in" (top 9) ["columns"]):Df P w K mg base 1 "burdens_in" ["columns"] (kq K):=by
 refine T.df fL (by rintro _ _ _ _ ⟨l,xs,C,rs,rfl,hl,pr,hsub,hrs,hib,nd,q⟩;rfl) ?_;rintro f _ A _ s H _ Q E hr ⟨l,xs,C,rs,rfl,hl,pr,hsub,hrs,hib,nd,q⟩;have hu:=hr.units;refine aQ ?_;intro kX;refine ai 2 (ao (aH (bL eK (by rfl) B.tuple boot_tuple (aa (bZ ["number"] [("found",1)] (gg _ ["found"]) rfl (by rfl) rfl (by trivial) (by trivial) (aW (by rfl)) (cR (by rfl)) (mC ⟨rfl,rfl⟩ mN) (mC rfl mN) (b6 (by decide)) (dE (aT (qv rfl) (by rfl) B.sorted (by trivial) (aa (pv 1) ah))) (fun _ _ _ _=>aR (i:=0) (show(["number","found"]:List Str).Nodup by trivial) rfl (Or.inl rfl) (Or.inr rfl)) (fun _ _ _ _=>cC) (fun _ _ _ _=>(iV (fC hr) (pv 1) (pv 0) (fun _ _=>rfl)))) ah)))) ?_;intro kR2 pR2;refine ai 1 (aj (dz GH rfl (dE (pv 0)) (aR (i:=2) fL.nd rfl (by trivial)) (ao (dz GH rfl (iq (pv 2)) (aR (i:=3) fL.nd rfl (by trivial)) (ao (iS (fC hr) (pv 1) (aC aF (pv 3) ae (fun _ _=>rfl)) (pv 3) rfl))))) pR2) ?_;intro kR1 pR1;refine⟨_,(aj (aA (i:=1) fL.nd rfl (by trivial) pO) pR1),?_⟩;have inj:=wC nd;have lx:xs.length=C.length:=Gi pr;have len:∀(D:List (List Key)),(D.map bh).Nodup->(∀r∈D,r∈rs)->D.length<=59:=fun D n1 h1=>by
  have:=List.Nodup.length_le_of_subset n1 (l₂:=rs.map bh) fun x hx=>by obtain⟨r,hr,e⟩:=Ge.mp hx;exact Ge.mpr ⟨r,h1 r hr,e⟩
  rw[FY,FY]at this;omega
 intro d hd;refine⟨_,rfl,l,rfl,⟨_,(aw.upd hd).seq hl⟩,fZ (K:=K) (a:=l) (xs:=xs) (fun i σ H2=>∃(o2 o3:Option V)(kvs:List (Key×V))(D:List (List Key)),σ=[some (.ref l),some (.ref d),o2,o3]/\H2=upd H d (.dK kvs)/\Paired (KB K H) kvs D/\(D.map bh).Nodup/\∀r,r∈D<->∃c∈C.take i,r∈c) ⟨none,none,[],[],rfl,rfl,.nil,List.nodup_nil,fun r=>by simp⟩ (fun i σ H2 _ hPz=>hPz.elim fun _ hPz=>hPz.elim fun _ hPz=>hPz.elim fun _ hPz=>hPz.elim fun _ hPz=>(fun e=>by rw[e];exact(aw.upd hd).seq hl) (hPz.2.1)) ?_ ?_⟩
 ·rintro i y σ H2 hi ⟨o2,o3,kvs,D,rfl,rfl,kb,nd2,hD⟩;refine fm ?_;intro kD1;obtain⟨c,hc,b,rfl,hb⟩:=aX pr hi;have cin:=Gb hc;obtain⟨lay,ys,hy,py⟩:=id hb;have ly:ys.length=c.length:=Gi py;refine⟨_,rfl,b,rfl,⟨_,(aw.upd hd).tup hy⟩,i0 (K:=K) (a:=b) (xs:=ys) (fun j σ H2=>∃(o3:Option V)(kvs:List (Key×V))(D:List (List Key)),σ=[some (.ref l),some (.ref d),some (.ref b),o3]/\H2=upd H d (.dK kvs)/\Paired (KB K H) kvs D/\(D.map bh).Nodup/\∀r,r∈D<->(∃c'∈C.take i,r∈c')\/r∈c.take j) ⟨o3,kvs,D,rfl,rfl,kb,nd2,fun r=>by rw[hD];simp⟩ (fun j σ H2 _ hPz=>hPz.elim fun _ hPz=>hPz.elim fun _ hPz=>hPz.elim fun _ hPz=>(fun e=>by rw[e];exact(aw.upd hd).tup hy) (hPz.2.1)) ?_ ?_⟩
  ·rintro j y σ H2 hj ⟨o3',kvs',D',rfl,rfl,kb',nd',hD'⟩;refine fm ?_;intro kD2;obtain⟨r,hr,a,rfl,ha⟩:=aX py hj;have rin:r∈c:=Gb hr;have rrs:=hsub c cin r rin;have bur:eQ K H (.ref a) r:=⟨lay r rin,a,rfl,ha⟩;have Dsub:∀x∈D',x∈rs:=fun x hx=>by
    rcases (hD' x).mp hx with⟨c',hc',z⟩|z
    ·exact hsub c' (List.mem_of_mem_take hc') x z
    ·exact hsub c cin x (List.mem_of_mem_take z)
   have ub:∀x∈D',bh x=bh r->x=r:=fun x hx e=>inj x (Dsub x hx) r rrs e;have lk:kvs'.length<=59:=(by rw[Gi kb'];exact len D' nd' Dsub);have put:=Au bur kb' ub;have fin:∀x,x∈rB D' r<->(∃c'∈C.take i,x∈c')\/x∈c.take (j+1):=fun x=>by rw[vQ ub,hD',GI,hr,GX,Gj,F2,or_assoc]
   have nda:=x3 (r:=r) nd';obtain⟨n,k,x,m,u,er⟩:=hib r rrs;have en:bh r=n:=(by rw[er];rfl);rw[en]at put;rw[er]at ha;refine⟨_,rfl,_,rfl,_,rfl,a,_,_,_,rfl,rfl,(aw.upd hd).tup ha,(av (j:=0) rfl),d,_,rfl,qG.k (k:=.inl n) af (aN (by omega)),?_⟩;exact⟨_,_,rB D' r,rfl,by rw[bq],put,nda,fin⟩
  ·rintro σ H2 ⟨o3',kvs',D',rfl,rfl,kb',nd',hD'⟩;refine⟨_,_,kvs',D',rfl,rfl,kb',nd',fun r=>?_⟩;rw[hD',ly,GK,GI,hc,GX];constructor
   ·rintro(⟨c',h1,h2⟩|h)
    ·exact⟨c',GC _ h1,h2⟩
    ·exact⟨c,Gx _ (F2.mpr rfl),h⟩
   ·rintro⟨c',h1,h2⟩;rcases Gj.mp h1 with z|z
    ·exact .inl ⟨c',z,h2⟩
    ·rw[F2.mp z]at h2;exact .inr h2
 ·rintro σ H2 ⟨o2,o3,kvs,D,rfl,rfl,kb,nd2,hD⟩;rw[lx,GK]at hD;have Dsub:∀x∈D,x∈rs:=fun x hx=>by
   obtain⟨c',hc',z⟩:=(hD x).mp hx;exact hsub c' hc' x z
  have lD:=len D nd2 Dsub;have s1:=aw.upd (o:=.dK kvs) hd;have hd1:(upd H d (.dK kvs)) d=some (.dK kvs):=af;generalize (upd H d (.dK kvs))=H1 at s1 hd1 ⊢;refine⟨_,rfl,d,kvs,D.map bh,rfl,.inl hd1,xK kb,by rw[FY];omega,fun l4 ns' hl4 pm so=>?_⟩;have s4:=aw.upd (o:=.lst (ns'.map V.int)) hl4;have h4:(upd H1 l4 (.lst (ns'.map V.int))) l4=some (.lst (ns'.map V.int)):=af;have ln:ns'.length<=59:=by rw[pm.length_eq,FY];exact lD
  have hd4:=s4 _ _ hd1;have s14:=s1.trans s4;generalize (upd H1 l4 (.lst (ns'.map V.int)))=H4 at s4 h4 hd4 s14 ⊢;refine⟨l4,rfl,⟨_,SqL.of h4⟩,fun A1 hA1=>?_⟩;refine qq (K:=K) (a:=l4) (xs:=ns'.map V.int) (fun i acc H5=>H5=upd H4 A1 (.lst acc)/\∃T:List (List Key),Paired (eQ K H) acc T/\T.map bh=ns'.take i/\∀r∈T,r∈D) ⟨rfl,[],.nil,rfl,fun _ z=>nomatch z⟩ (fun i acc H5 _ ⟨e,_⟩=>by rw[e];exact(aw.upd hA1).seq (SqL.of h4)) ?_ ?_
  ·rintro i y acc H5 hi ⟨rfl,T,pT,mT,sT⟩;refine fo ?_;intro kq3 kr3;obtain⟨n,hn,rfl⟩:∃n,ns'[i]?=some n/\y=.int n:=by
    rw[Gn]at hi;cases e:ns'[i]? with
    |none=>rw[e]at hi;cases hi
    |some n=>rw[e]at hi;cases hi;exact⟨n,rfl,rfl⟩
   obtain⟨v,r,ev,hr,er,hv⟩:=As kb (pm.mem_iff.mp (Gb hn));have dg:=jj.k (k:=.inl n) ((aw.upd (o:=.lst acc) hA1) _ _ hd4);rw[ev]at dg;refine⟨_,rfl,_,rfl,d,_,rfl,dg,af,aN ?_,by rw[bq],T++[r],Paired.app pT (.cons hv .nil),?_,fun x hx=>?_⟩
   ·have l1:acc.length=T.length:=Gi pT;have l2:=congrArg List.length mT;rw[FY,G0]at l2;omega
   ·rw[Gk,mT,GI,hn,GX,F9,HH,er]
   ·rcases Gj.mp hx with z|z
    ·exact sT x z
    ·rw[F2.mp z];exact hr
  ·rintro acc H5 ⟨rfl,T,pT,mT,sT⟩;rw[FY,GK]at mT;have s5:=aw.upd (o:=.lst acc) hA1;refine⟨A1,_,rfl,.inl ⟨SqL.of af,fun a ha=>?_⟩⟩;have s6:=aw.upd (o:=.tup acc) ha;have sZ:=s14.trans (s5.trans s6);exact q a T _ sZ (C3 nd2 hD pm so mT sT) (eO.of (SqT.of af) (Paired.imp (fun _ _ z=>eQ.tk sZ.tk z) pT))
def g9(K:Frag)(mg:Str->Option Value):Sp:=fun vs H Q _=>∃(a C dx sg:Addr)(num since:Int),vs=[.ref a,.int num,.int since,.ref sg]/\H a=some (.ins C dx [])/\x4 K mg C/\Q .non (upd H a (.ins C dx (FN num since sg)))
variable(d9:DfT P w K mg base CX0 1 bW "__init__" ["self","number","since","signed"] (g9 K mg) [])
theorem lP:aD ["self","number","since","signed"] ["self","number","since","signed"] (aq dY):=by trivial
include B cW in
theorem lZ(T:TxM K bW "__init__" "Paper.__init__" dY ["self","number","since","signed"] []):DfT P w K mg base CX0 1 bW "__init__" ["self","number","since","signed"] (g9 K mg) []:=by refine T.df lP (by rintro _ _ _ _ ⟨a,C,dx,sg,num,since,rfl,ha,PC,q⟩;rfl) ?_;rintro f _ A _ s H _ Q E hr ⟨a,C,dx,sg,num,since,rfl,ha,PC,q⟩;refine aQ ?_;intro kX;refine ai 2 (ao (iQ (pv 0) (pv 3) rfl)) ?_;intro kR2 pR2;refine ai 1 (aj (iQ (pv 0) (pv 2) rfl) pR2) ?_;intro kR1 pR1;refine⟨_,(aj (iQ (pv 0) (pv 1) rfl) pR1),?_⟩;refine⟨_,rfl,_,rfl,a,C,dx,_,rfl,ha,PC.cls,PC.num,by decide,?_⟩;refine⟨_,rfl,_,rfl,a,C,dx,_,rfl,af,PC.cls,PC.sin,(by show 1<1000;decide),?_⟩;refine⟨_,rfl,_,rfl,a,C,dx,_,rfl,af,PC.cls,PC.sig,(by show 2<1000;decide),?_⟩;rw[bq,bq];exact q
def iz(K:Frag)(mg:Str->Option Value):Sp:=fun vs H Q _=>∃(a C dx sg l:Addr)(fs:List (Str×V))(ss xs:List Str),vs=[.ref a,.ref l]/\H a=some (.ins C dx fs)/\x4 K mg C/\fs.lookup ("signed":Str)=some (.ref sg)/\SqT K H sg (SV ss)/\SqL K H l (SV xs)/\(∀x∈ss,PyData.canLay0 (.str x)=true)/\(∀x∈xs,PyData.canLay0 (.str x)=true)/\Q (CK (ft ss xs)) H
variable(eZ:DfT P w K mg base CX0 1 bW "wanting" ["self","names"] (iz K mg) [])
theorem iC:aD ["self","names","name"] ["self","names"] (aq eR):=by trivial
include B cW in
theorem mY(T:TxM K bW "wanting" "Paper.wanting" eR ["self","names"] []):DfT P w K mg base CX0 1 bW "wanting" ["self","names"] (iz K mg) []:=by
 refine T.df iC (by rintro _ _ _ _ ⟨a,C,dx,sg,l,fs,ss,xs,rfl,ha,PC,hf,hs,hl,lss,lxs,q⟩;rfl) ?_;rintro f _ A _ s H _ Q E hr ⟨a,C,dx,sg,l,fs,ss,xs,rfl,ha,PC,hf,hs,hl,lss,lxs,q⟩;have hu:=hr.units;refine aQ ?_;intro kX;refine ai 1 (ao (aH dA)) ?_;intro kR1 pR1;refine⟨_,(aj (dz GH rfl (dE (pv 1)) (aR (i:=2) iC.nd rfl (by trivial)) (ao (aU (aJ (mS hu) (pv 2) (jE (pv 0) rfl) (by with_unfolding_all rfl)) (ao (aH (pv 2))) aK))) pR1),?_⟩;refine⟨_,rfl,l,rfl,⟨_,hl⟩,fZ (K:=K) (a:=l) (xs:=SV xs) (fun i σ H2=>∃o2:Option V,σ=[some (.ref a),some (.ref l),o2]/\H2=H/\ft ss xs=ft ss (xs.drop i)) ⟨none,rfl,rfl,rfl⟩ (fun i σ H2 _ hPz=>hPz.elim fun _ hPz=>(fun e=>by rw[e];exact hl) (hPz.2.1)) ?_ ?_⟩
 ·rintro i y σ H2 hi ⟨o2,rfl,rfl,e⟩;refine fm ?_;intro kD1;obtain⟨x,hx,rfl⟩:∃x,xs[i]?=some x/\y=.str x:=by
   rw[show SV xs=xs.map V.str from rfl,Gn]at hi;cases e:xs[i]? with
   |none=>rw[e]at hi;cases hi
   |some x=>rw[e]at hi;cases hi;exact⟨x,rfl,rfl⟩
  rw[jX hx,rF]at e;refine⟨_,rfl,_,rfl,a,C,dx,fs,_,rfl,ha,PC.cls,PC.sig,hf,.str x,ss.map PyData.str,.str _,.inr (.tup hs (jV ss)),lxs x (Gb hx),qg lss,Gq rfl,_,rfl,?_⟩;rw[vP];refine bj (fun h2=>?_) (fun h2=>?_)
  ·have h2':x∉ss:=(by simpa using h2);rw[F6 h2']at e;rw[e]at q;exact⟨_,rfl,q⟩
  ·have h2':x∈ss:=(by simpa using h2);rw[F8 h2']at e;exact⟨_,rfl,rfl,e⟩
 ·rintro σ H2 ⟨o2,rfl,rfl,e⟩;rw[show(SV xs).length=xs.length from FY _,List.drop_length]at e;rw[e]at q;exact q
def g8(K:Frag):Sp:=fun vs H Q _=>∃(x y:Int),vs=[.int x,.int y]/\Q (.int (Int.gcd x y:Nat)) H
variable(d8:Df P w K mg base 1 "common_divisor" ["one","other"] (g8 K))
theorem bS:aD ["one","other","found","rest","behind"] ["one","other"] (aq (top 18)):=by trivial
include B vN in
theorem lY(T:Tx K mg "common_divisor" (top 18) ["one","other"]):Df P w K mg base 1 "common_divisor" ["one","other"] (g8 K):=by
 refine T.df bS (by rintro _ _ _ _ ⟨x,y,rfl,q⟩;rfl) ?_;rintro f _ A _ s H _ Q E hr ⟨x,y,rfl,q⟩;refine aQ ?_;intro kX;refine ai 3 (ao (aH (pv 2))) ?_;intro kR3 pR3;refine bR 2 2 (ao (aA (i:=3) bS.nd rfl (by trivial) (pv 4))) ?_;intro kS2x2 pS2x2;refine bR 2 1 (aj (aA (i:=2) bS.nd rfl (by trivial) (pv 3)) pS2x2) ?_;intro kS2x1 pS2x1;refine bR 2 0 (aj (aA (i:=4) bS.nd rfl (by trivial) (au xC (pv 2) (pv 3))) pS2x1) ?_;intro kS2x0 pS2x0;refine ai 2 (aj (pK GH (aJ kB (pv 3) ae (aI _)) pS2x0) pR3) ?_;intro kR2 pR2;refine ai 1 (aj (aA (i:=3) bS.nd rfl (by trivial) (aT vK (by rfl) vN boot_abs (aa (pv 1) ah))) pR2) ?_;intro kR1 pR1;refine⟨_,(aj (aA (i:=2) bS.nd rfl (by trivial) (aT vK (by rfl) vN boot_abs (aa (pv 0) ah))) pR1),?_⟩;refine⟨_,rfl,_,rfl,_,rfl,_,rfl,?_⟩;refine⟨fun m σ H2=>∃(f r:Int)(o:Option V),σ=[some (.int x),some (.int y),some (.int f),some (.int r),o]/\H2=H/\Int.gcd f r=Int.gcd x y/\0<=f/\0<=r/\m=r.natAbs,⟨_,_,_,_,rfl,rfl,Cb x y,A4 x,A4 y,rfl⟩,?_⟩;rintro m σ H2 ⟨f,r,o,rfl,rfl,hg,hf,hr,rfl⟩;refine⟨_,rfl,rfl,_,rfl,?_⟩;refine bj (fun h1=>?_) (fun h1=>?_)
 ·have h1':r≠0:=by
   intro z;rw[z]at h1
   revert h1
   decide
  refine⟨fun σ' H'=>∃o',σ'=[some (.int x),some (.int y),some (.int r),some (.int (f.fmod r)),o']/\H'=H2,?_,?_⟩
  ·rintro σ' H' ⟨o',rfl,rfl⟩;exact⟨_,vt f h1',r,f.fmod r,_,rfl,rfl,(vo f r).trans hg,hr,Int.fmod_nonneg_of_pos f (by omega),rfl⟩
  ·exact⟨_,rfl,_,rfl,_,_,rfl,rfl,h1',_,rfl,_,rfl,_,rfl,rfl⟩
 ·have h1':r=0:=G5 fun z=>h1 (by simp[z]);subst h1';refine⟨_,rfl,?_⟩;rw[<-hg,<-gcd_zero,F6 (by omega)]at q;exact q
def uF(K:Frag):Sp:=fun vs H Q _=>∃(x y:Addr)(t b u c:Int),vs=[.ref x,.ref y]/\SqT K H x [.int t,.int b]/\SqT K H y [.int u,.int c]/\(0<b/\0<c)/\(Bd 2000 t/\Bd 2000 b/\Bd 2000 u/\Bd 2000 c)/\Q (.bl (decide (t*c<u*b))) H
variable(oK:Df P w K mg base 1 "under" ["one","other"] (uF K))
theorem zy:aD ["one","other"] ["one","other"] (aq (top 24)):=by trivial
include B in
theorem Ad(T:Tx K mg "under" (top 24) ["one","other"]):Df P w K mg base 1 "under" ["one","other"] (uF K):=by refine T.df zy (by rintro _ _ _ _ ⟨x,y,t,b,u,c,rfl,hx,hy,⟨hb,hc⟩,⟨t1,t2,t3,t4⟩,q⟩;rfl) ?_;rintro f _ A _ s H _ Q E hr ⟨x,y,t,b,u,c,rfl,hx,hy,⟨hb,hc⟩,⟨t1,t2,t3,t4⟩,q⟩;refine⟨_,(ao (aH (bJ kC (au cH (aC aF (pv 0) ae (fun _ _=>rfl)) (aC aF (pv 1) ae (fun _ _=>rfl))) (au cH (aC aF (pv 1) ae (fun _ _=>rfl)) (aC aF (pv 0) ae (fun _ _=>rfl))) (aI _)))),?_⟩;have B20:∀{z:Int},Bd 2000 z->Bd 20000 z:=fun h=>h.mono (by decide);have hbc:0<b*c:=HJ hb hc;have bdb:Bd 4000 (b*c):=t2.mul t4;refine⟨_,rfl,x,_,_,_,rfl,rfl,hx,(av (j:=0) rfl),_,rfl,y,_,_,_,rfl,rfl,hy,(av (j:=1) rfl),_,_,rfl,rfl,⟨B20 t1,B20 t4⟩,_,rfl,y,_,_,_,rfl,rfl,hy,(av (j:=0) rfl),_,rfl,x,_,_,_,rfl,rfl,hx,(av (j:=1) rfl),_,_,rfl,rfl,⟨B20 t3,B20 t2⟩,_,_,rfl,rfl,?_⟩;exact q
def oZ(K:Frag)(mg:Str->Option Value):Sp:=fun vs H Q E=>∃(d:Addr)(S:Sh),vs=[.ref d]/\ShD K H d S/\S.length<60/\(∀ss,ss.Perm (S.map (·.1))->sortedS ss=true->(¬∃p∈bY S ss,FIN<p.2.2)->∀l H',aw H H'->ShF K H' l (bY S ss)->Q (.ref l) H')/\(∀ss,ss.Perm (S.map (·.1))->sortedS ss=true->(∃p∈bY S ss,FIN<p.2.2)->∀H',aw H H'->E (kf mg "TooFine") none H')
variable(iJ:DfE P w K mg base 1 "told_of" ["held"] (oZ K mg))
theorem pk:aD ["held","shares"] ["held"] (aq (top 29)):=by trivial
include B mq xY cJ fF in
theorem wu(T:Tx K mg "told_of" (top 29) ["held"]):DfE P w K mg base 1 "told_of" ["held"] (oZ K mg):=by
 obtain⟨pu_NONE,gu_NONE,tu_NONE⟩:=fF;refine T.dfE pk (by rintro _ _ _ _ ⟨d,S,rfl,hD,hz,q,qE⟩;rfl) ?_;rintro f _ A _ s H _ Q E hr ⟨d,S,rfl,hD,hz,q,qE⟩;have hu:=hr.units;refine aQ ?_;intro kX;refine ai 2 (ao (aH (pv 1))) ?_;intro kR2 pR2;refine ai 1 (aj (aU (dP (aT (yT rfl) (by rfl) xY (by trivial) (aa (bZ ["pair"] [] (gg _ []) rfl (by rfl) rfl (by trivial) (by trivial) (aW (by rfl)) (cR (by rfl)) mN mN (b6 (by decide)) (iq (pv 1)) (fun _ _ _ _=>aR (i:=0) (show(["pair"]:List Str).Nodup by trivial) rfl (Or.inl rfl) (Or.inr rfl)) (fun _ _ _ _=>cC) (fun _ _ _ _=>(bJ jG (aC (fO (K:=K) rfl) (aC (fO (K:=K) rfl) (pv 0) ae (fun _ _=>rfl)) ae (fun _ _=>rfl)) (iU (v:=.int FIN) (by rfl) mq.choose_spec ⟨_,rfl⟩) (aI _)))) ah))) (ao (uS (W:=fun H1=>E (.ref cz) none H1) cJ rfl (aa aS ah) (fun _ _ _ _ _ _ _ I hx ee=>xg I hx ee))) aK) pR2) ?_;intro kR1 pR1;refine⟨_,(aj (aA (i:=1) pk.nd rfl (by trivial) (bL sv (by rfl) B.tuple boot_tuple (aa (bZ ["name"] [("held",0)] (gg _ ["held"]) rfl (by rfl) rfl (by trivial) (by trivial) (aW (by rfl)) (cR (by rfl)) (mC ⟨rfl,rfl⟩ mN) (mC rfl mN) (b6 (by decide)) (dE (aT (qu rfl) (by rfl) B.sorted (by trivial) (aa (pv 0) ah))) (fun _ _ _ _=>aR (i:=0) (show(["name","held"]:List Str).Nodup by trivial) rfl (Or.inl rfl) (Or.inr rfl)) (fun _ _ _ _=>iD (aJ (BL (K:=K) rfl hu) (iV (fC hr) (pv 1) (pv 0) (fun _ _=>rfl)) (iU (v:=.ref pu_NONE) (by rfl) gu_NONE rfl) (aI _))) (fun _ _ _ _=>(bp (aa (pv 0) (aa (iV (fC hr) (pv 1) (pv 0) (fun _ _=>rfl)) ah))))) ah))) pR1),?_⟩;obtain⟨kvs,hd,r⟩:=hD;rw[oN cJ]at qE;refine⟨_,rfl,d,_,S.map (·.1),rfl,.inl hd,rN r,by rw[FY];omega,fun l2 ss hl2 pm so=>?_⟩;have sl2:=aw.upd (o:=.lst (ss.map V.str)) hl2;have lss:ss.length<60:=by rw[pm.length_eq,FY];exact hz
 refine⟨l2,rfl,⟨_,SqL.of af⟩,fun D hD=>?_⟩;have hl4:upd H l2 (.lst (ss.map V.str)) l2=some (.lst (ss.map V.str)):=af;have hd4:=sl2 _ _ hd;have r4:=Paired.imp (fun _ _=>ShV.tk sl2.tk) r;generalize (upd H l2 (.lst (ss.map V.str)))=H4 at sl2 hl4 hd4 hD r4 ⊢;refine qq (K:=K) (a:=l2) (xs:=ss.map V.str) (fun i acc H5=>aw H4 H5/\H5 D=some (.lst acc)/\Paired (ShE K H5) acc (bY S (ss.take i))) ⟨aw.upd hD,af,.nil⟩ (fun i acc H5 _ ⟨e,_⟩=>SqL.of (e _ _ hl4)) ?_ ?_
 ·rintro i y acc H5 hi5 ⟨s5,hD5,pr⟩;refine fo ?_;intro kq1 kr1;obtain⟨x,hx,rfl⟩:∃x,ss[i]?=some x/\V.str x=y:=by
   rw[Gn]at hi5;cases e:ss[i]? with
   |none=>rw[e]at hi5;cases hi5
   |some x=>rw[e]at hi5;exact⟨x,rfl,GB hi5⟩
  have hin:x∈S.map (·.1):=pm.mem_iff.mp (Gb hx);obtain⟨p,hp,hq⟩:∃p,eu kvs (Sum.inr x)=some (.ref p)/\SqT K H4 p [.int (aG S x).1,.int (aG S x).2]:=by
   rcases jO (x:=x) r4 with⟨h1,h2⟩|⟨p,f,h1,h2,h3⟩
   ·have:=Hn.mp h2 _ (lL hin);simp at this
   ·have e:aG S x=f.2:=(by unfold aG;rw[h2];rfl);exact⟨p,h1,by rw[e];exact h3⟩
  have hd5:=s5 _ _ hd4;have hq5:=s5.tup hq;have dg:jj H5 d (.str x) (some (.ref p)):=by rw[<-hp];exact jj.k (k:=Sum.inr x) hd5
  refine⟨_,rfl,_,rfl,d,_,rfl,dg,_,_,IsD.tup hq5 (Av _ _),IsD.tup (tu_NONE _) (Av _ _),rfl,rfl,by show 1<=50;decide,_,rfl,?_⟩;rw[DX];have lacc:acc.length<sizeLine:=by rw[Gi pr];have:=oS S (ss.take i);rw[G0]at this;exact aN (by omega)
  refine bj (fun h1=>?_) (fun h1=>?_)
  ·have hne:¬aG S x=(0,1):=fun z=>by
    rw[Gp (show((aG S x).1,(aG S x).2)=((0:Int),(1:Int))from z)]at h1;exact absurd h1 (by decide)
   refine⟨_,rfl,_,rfl,_,rfl,d,_,rfl,dg,aP rfl,fun r1 hr1=>?_⟩;have sr:=aw.upd (o:=.tup [.str x,.ref p]) hr1;refine⟨sr _ _ hD5,lacc,?_,af,?_⟩
   ·intro b o e;rw[az (fun z=>by rw[z,hD]at e;cases e)];exact sr _ _ (s5 _ _ e)
   ·rw[oU hx,F6 hne];have tk2:=TK.lst (o:=.lst (acc++[.ref r1])) (sr _ _ hD5);exact Paired.app (Paired.imp (fun _ _ z=>(z.same sr).tk tk2) pr) (.cons (ShE.tk tk2 ⟨r1,p,rfl,SqT.of af,sr.tup hq5⟩) .nil)
  ·have he:aG S x=(0,1):=G5 fun z=>h1 (by rw[Gw (show ¬((aG S x).1,(aG S x).2)=((0:Int),(1:Int))from z)];rfl);refine⟨s5,hD5,?_⟩;rw[oU hx,F8 he,GF];exact pr
 ·rintro acc H5 ⟨s5,hD5,pr⟩;rw[FY,GK]at pr;refine⟨D,_,rfl,SqL.of hD5,fun l ob hl pl=>?_⟩;have sl:=aw.upd (o:=.frz ob (.tup acc)) hl;have hF:ShF K (upd H5 l (.frz ob (.tup acc))) l (bY S ss):=⟨ob,acc,pl,af,Paired.imp (fun _ _ z=>z.same sl) pr⟩;have s6:=sl2.trans (s5.trans sl);clear sl pr hD5 s5;generalize (upd H5 l (.frz ob (.tup acc)))=H6 at hF s6 ⊢;obtain⟨vs,hv,rv⟩:=hF.t;refine⟨_,rfl,l,rfl,⟨_,hv⟩,fun D2 hD2=>?_⟩;have sD:∀o:HO,aw H6 (upd H6 D2 o):=fun o=>aw.upd hD2;have lv:vs.length=(bY S ss).length:=Gi rv;have lt:=oS S ss;refine xW (K:=K) (a:=l) (xs:=vs) (fun i acc H7=>H7=upd H6 D2 (.lst acc)/\acc=(((bY S ss).take i).map fun p=>decide (FIN<p.2.2)).map V.bl) ⟨rfl,rfl⟩ (fun i acc H7 _ ⟨e,_⟩=>by rw[e];exact(sD _).tup hv) ?_ ?_
  ·rintro i y acc H7 hi7 ⟨rfl,rfl⟩;refine fo ?_;intro kq2 kr2;obtain⟨p,hp,r1,q1,rfl,h1,h2⟩:=aX rv hi7;refine⟨_,rfl,r1,_,_,_,rfl,rfl,(sD _).tup h1,(av (j:=1) rfl),q1,_,_,_,rfl,rfl,(sD _).tup h2,(av (j:=1) rfl),_,_,rfl,rfl,af,?_,?_,?_⟩
   ·rw[FY,FY,G0];exact aN (by omega)
   ·rw[bq]
   ·rw[GI,hp];simp
  ·rintro acc H7 ⟨rfl,rfl⟩;rw[lv,GK];refine⟨D2,_,rfl,.inl af,_,rfl,?_⟩;have s7:=s6.trans (sD (.lst (((bY S ss).map fun p=>decide (FIN<p.2.2)).map V.bl)));refine bj (fun h1=>?_) (fun h1=>?_)
   ·refine⟨aP rfl,qE ss pm so ?_ _ s7⟩;rw[List.any_map,Hr]at h1;obtain⟨p,hp,h2⟩:=h1;exact⟨p,hp,Gu h2⟩
   ·refine⟨_,rfl,q ss pm so (fun⟨p,hp,h2⟩=>h1 ?_) _ _ s7 (hF.tk (sD _).tk)⟩;rw[List.any_map,Hr];exact⟨p,hp,Gp h2⟩
def nB(K:Frag):Sp:=fun vs H Q _=>∃(a:Addr)(S:Sh)(x:Str),vs=[.ref a,.str x]/\ShT K H a S/\∀p,SqT K H p [.int (aG S x).1,.int (aG S x).2]->Q (.ref p) H
variable(i6:Df P w K mg base 1 "share_of" ["shares","name"] (nB K))
theorem nL:aD ["shares","name","pair"] ["shares","name"] (aq (top 32)):=by trivial
include B fF in
theorem uY(T:Tx K mg "share_of" (top 32) ["shares","name"]):Df P w K mg base 1 "share_of" ["shares","name"] (nB K):=by
 obtain⟨pu_NONE,gu_NONE,tu_NONE⟩:=fF;refine T.df nL (by rintro _ _ _ _ ⟨a,S,x,rfl,hA,q⟩;rfl) ?_;rintro f _ A _ s H _ Q E hr ⟨a,S,x,rfl,hA,q⟩;refine aQ ?_;intro kX;refine ai 1 (ao (aH (iU (v:=.ref pu_NONE) (by rfl) gu_NONE rfl))) ?_;intro kR1 pR1;refine⟨_,(aj (dz GH rfl (iq (pv 0)) (aR (i:=2) nL.nd rfl (by trivial)) (ao (aU (aJ ck (aC aF (pv 2) ae (fun _ _=>rfl)) (pv 1) (aI _)) (ao (aH (aC aF (pv 2) ae (fun _ _=>rfl)))) aK))) pR1),?_⟩;obtain⟨vs,ha,r⟩:=hA;refine⟨_,rfl,a,rfl,⟨_,ha⟩,i0 (K:=K) (a:=a) (xs:=vs) (fun i σ H2=>∃o2:Option V,σ=[some (.ref a),some (.str x),o2]/\H2=H/\aG S x=aG (S.drop i) x) ⟨none,rfl,rfl,rfl⟩ (fun i σ H2 _ hPz=>hPz.elim fun _ hPz=>(fun e=>by rw[e];exact ha) (hPz.2.1)) ?_ ?_⟩
 ·rintro i y σ H2 hi ⟨o2,rfl,rfl,hat⟩;refine fm ?_;intro kD1;obtain⟨p,hp,r1,q1,rfl,h1,h2⟩:=aX r hi;rw[jX hp,fk]at hat;refine⟨_,rfl,r1,_,_,_,rfl,rfl,h1,(av (j:=0) rfl),_,rfl,rfl,_,rfl,?_⟩;refine bj (fun h3=>?_) (fun h3=>?_)
  ·have e:p.1=x:=V.str.inj (Gu h3);rw[F8 e]at hat;refine⟨_,rfl,r1,_,_,_,rfl,rfl,h1,(av (j:=1) rfl),?_⟩;exact q q1 (by rw[hat];exact h2)
  ·have e:¬p.1=x:=fun z=>h3 (by rw[z,Gp rfl]);rw[F6 e]at hat;exact⟨_,rfl,rfl,hat⟩
 ·rintro σ H2 ⟨o2,rfl,rfl,hat⟩;have e:S.drop vs.length=[]:=by rw[List.drop_eq_nil_iff,Gi r];exact F4 _
  rw[e,pj]at hat;refine q pu_NONE ?_;rw[hat];exact tu_NONE _
def fV(K:Frag)(mg:Str->Option Value):Sp:=fun vs H Q _=>∃(a C dx sg pa:Addr)(num since:Int)(G:gZ)(tr:V)(u:V)(r:List Key),vs=[.ref a,u]/\H a=some (.ins C dx (om num since sg pa G tr))/\vT K mg C/\eQ K H u r/\fE r/\Q (.bl (nv since G.tk r)) H
variable(cI:DfT P w K mg base CX0 1 aL "has_to_agree" ["self","burden"] (fV K mg) [])
theorem fX:aD ["self","burden","binds"] ["self","burden"] (aq cG):=by trivial
include B bI in
theorem jH(T:TxM K aL "has_to_agree" "Give.has_to_agree" cG ["self","burden"] []):DfT P w K mg base CX0 1 aL "has_to_agree" ["self","burden"] (fV K mg) []:=by
 refine T.df fX (by rintro _ _ _ _ ⟨a,C,dx,sg,pa,num,since,G,tr,u,r,rfl,ha,D,hb,ib,q⟩;rfl) ?_;rintro f _ A _ s H _ Q E hr ⟨a,C,dx,sg,pa,num,since,G,tr,u,r,rfl,ha,D,hb,ib,q⟩;refine aQ ?_;intro kX;refine ai 1 (ao (aH (mQ (pv 2) (iT (bJ kB (aC aF (pv 1) ae (fun _ _=>rfl)) (jE (pv 0) rfl) (aI _)))))) ?_;intro kR1 pR1;refine⟨_,(aj (aA (i:=2) fX.nd rfl (by trivial) (zP (bJ ck (aC aF (pv 1) ae (fun _ _=>rfl)) aS (aI _)) (iT (mQ (bJ ck (aC aF (pv 1) ae (fun _ _=>rfl)) aS (aI _)) (iT (bJ zZ (aC aF (pv 1) ae (fun _ _=>rfl)) (jE (pv 0) rfl) (aI _))))))) pR1),?_⟩;obtain⟨n,k,x,m,un,rfl⟩:=ib;obtain⟨lay,ab,rfl,hb⟩:=hb;rw[A3]at q;refine⟨_,rfl,ab,_,_,_,rfl,rfl,hb,av (j:=1) rfl,rfl,_,rfl,?_⟩;refine bj (fun h1=>?_) (fun h1=>?_)
 ·replace h1:decide (V.str k=V.str (Str.ofString "buy"))=true:=h1;rw[h1,Bool.true_or,Bool.true_and]at q;exact⟨_,rfl,_,rfl,jh ⟨_,rfl,ab,_,_,_,rfl,rfl,hb,av (j:=2) rfl,_,rfl,a,C,dx,_,_,rfl,ha,D.pap.cls,D.tk,rfl,rfl,q⟩⟩
 replace h1:¬decide (V.str k=V.str (Str.ofString "buy"))=true:=h1;rw[Hs h1,Bool.false_or]at q;refine⟨_,rfl,ab,_,_,_,rfl,rfl,hb,av (j:=1) rfl,rfl,_,rfl,?_⟩;refine bj (fun h2=>?_) (fun h2=>?_)
 ·replace h2:decide (V.str k=V.str (Str.ofString "note"))=true:=h2;rw[h2,Bool.true_and]at q;refine⟨_,rfl,ab,_,_,_,rfl,rfl,hb,av (j:=4) rfl,_,rfl,a,C,dx,_,_,rfl,ha,D.pap.cls,D.pap.sin,rfl,_,_,rfl,rfl,?_⟩;refine⟨_,rfl,_,rfl,?_⟩;refine bj (fun h3=>?_) (fun h3=>?_)
  ·replace h3:decide (since<=un)=true:=h3;rw[h3,Bool.true_and]at q;exact⟨_,rfl,ab,_,_,_,rfl,rfl,hb,av (j:=2) rfl,_,rfl,a,C,dx,_,_,rfl,ha,D.pap.cls,D.tk,rfl,rfl,q⟩
  ·replace h3:¬decide (since<=un)=true:=h3;rw[Hs h3,Bool.false_and]at q;exact q
 ·replace h2:¬decide (V.str k=V.str (Str.ofString "note"))=true:=h2;rw[Hs h2,Bool.false_and,Bool.false_and]at q;exact⟨_,rfl,_,rfl,fq q⟩
def jv(K:Frag):Sp:=fun vs H Q _=>∃(a:Addr)(ns:List Int)(k:Nat),vs=[.ref a,.int k]/\SqL K H a (ns.map V.int)/\Q (.int (ns.getD k 0)) H
variable(aM:Df P w K mg base 1 "_law_cell_at" ["_law_script","_law_k"] (jv K))
theorem pF:aD ["_law_script","_law_k"] ["_law_script","_law_k"] (aq (top 40)):=by trivial
include B in
theorem pZ(T:Tx K mg "_law_cell_at" (top 40) ["_law_script","_law_k"]):Df P w K mg base 1 "_law_cell_at" ["_law_script","_law_k"] (jv K):=by
 refine T.df pF (by rintro _ _ _ _ ⟨a,ns,k,rfl,hS,q⟩;rfl) ?_;rintro f _ A _ s H _ Q E hr ⟨a,ns,k,rfl,hS,q⟩;refine aQ ?_;intro kX;refine ai 1 (ao (aH ae)) ?_;intro kR1 pR1;refine⟨_,(aj (aU (aJ kC (pv 1) (aT bG (by rfl) B.len Ht (aa (pv 0) ah)) (aI _)) (ao (aH (aC bO (pv 0) (pv 1) (fun _ _=>rfl)))) aK) pR1),?_⟩;refine⟨_,rfl,_,rfl,a,_,rfl,.inl hS,_,_,rfl,rfl,_,rfl,?_⟩;refine bj (fun h1=>?_) (fun h1=>?_)
 ·have h1':k<ns.length:=by
   have:=Gu h1;rw[FY]at this;omega
  refine⟨_,rfl,_,rfl,a,_,_,_,rfl,rfl,hS,av (show(ns.map V.int)[k]?=some (.int (ns.getD k 0)) by simp[h1',List.getD]),q⟩
 ·have h1':¬k<ns.length:=fun z=>h1 (by
   rw[GR,FY]
   omega)
  have e:ns.getD k 0=0:=by simp[List.getD,Nat.le_of_not_lt h1']
  rw[e]at q;exact q
def lE(K:Frag):Sp:=fun vs H Q _=>∃(x:V)(n:String),vs=[x]/\gX K H x (.type n)/\Q (.bl (isI x)) H
variable(cV:Df P w K mg base 1 "_law_whole" ["_law_found"] (lE K))
theorem sW:aD ["_law_found"] ["_law_found"] (aq (top 41)):=by trivial
include B in
theorem tL(T:Tx K mg "_law_whole" (top 41) ["_law_found"]):Df P w K mg base 1 "_law_whole" ["_law_found"] (lE K):=by
 refine T.df sW (by rintro _ _ _ _ ⟨x,n,rfl,ty,q⟩;rfl) ?_;rintro f _ A _ s H _ Q E hr ⟨x,n,rfl,ty,q⟩;refine⟨_,(ao (aH (mQ (aT qw (by rfl) B.isinstance boot_isinstance (aa (pv 0) (aa (jQ (x:="int") (v:=.ty "int") (by rfl) B.int boot_int rfl) ah))) (iT (Dx (aT qw (by rfl) B.isinstance boot_isinstance (aa (pv 0) (aa (jQ (x:="bool") (v:=.ty "bool") (by rfl) B.bool boot_bool rfl) ah)))))))),?_⟩;have k1:=BZ K ty;have k2:=Ap K ty;refine⟨_,rfl,_,_,_,_,rfl,ty,k1,_,rfl,?_⟩;refine bj (fun h1=>?_) (fun h1=>?_)
 ·refine⟨_,rfl,_,_,_,_,rfl,ty,k2,_,rfl,?_⟩;cases x<;>simp_all [isI,isB]
 ·cases x<;>simp_all [isI,isB]
def nJ(K:Frag):Sp:=fun vs H Q _=>∃(c:Int),vs=[.int c]/\∀r:Nat,Q (.int r) H
variable(c8:Df P w K mg base 1 "_law_bits" ["_law_cell"] (nJ K))
theorem nO:aD ["_law_cell","_law_one"] ["_law_cell"] (aq (top 42)):=by trivial
include B in
theorem u9(T:Tx K mg "_law_bits" (top 42) ["_law_cell"]):Df P w K mg base 1 "_law_bits" ["_law_cell"] (nJ K):=by
 refine T.df nO (by rintro _ _ _ _ ⟨c,rfl,q⟩;rfl) ?_;rintro f _ A _ s H _ Q E hr ⟨c,rfl,q⟩;refine aQ ?_;intro kX;refine ai 1 (ao (aH (au zY (pv 1) (au bV (pv 1) ae)))) ?_;intro kR1 pR1;refine⟨_,(aj (aA (i:=1) nO.nd rfl (by trivial) (au bf (au bX (au bf (pv 0) (au gc ae ae)) ae) (au gc ae ae))) pR1),?_⟩;refine⟨_,rfl,_,_,rfl,rfl,⟨by decide,by decide,by decide⟩,_,_,rfl,rfl,(by show(0:Int)<_;decide),_,_,rfl,rfl,.inl (EW c),_,_,rfl,rfl,⟨by decide,by decide,by decide⟩,_,_,rfl,rfl,(by show(0:Int)<_;decide),?_⟩;have a0:=GP (c % (2:Int)^(64:Int).toNat*5678901234567890123) (show(2:Int)^(64:Int).toNat≠0 by decide);obtain⟨a,ea⟩:∃a:Nat,c % (2:Int)^(64:Int).toNat*5678901234567890123 % (2:Int)^(64:Int).toNat=(a:Nat):=⟨_,(Int.toNat_of_nonneg a0).symm⟩;obtain⟨r,er⟩:=C4 a (a / 536870912);refine⟨_,rfl,_,rfl,_,_,rfl,rfl,⟨by decide,by decide⟩,_,_,rfl,rfl,?_⟩;have e:Builtin.bitXor (c % (2:Int)^(64:Int).toNat*5678901234567890123 % (2:Int)^(64:Int).toNat) (c % (2:Int)^(64:Int).toNat*5678901234567890123 % (2:Int)^(64:Int).toNat / 536870912)=(r:Nat):=by rw[ea];exact er
 show Q (.int (Builtin.bitXor (c % (2:Int)^(64:Int).toNat*5678901234567890123 % (2:Int)^(64:Int).toNat) (c % (2:Int)^(64:Int).toNat*5678901234567890123 % (2:Int)^(64:Int).toNat / 536870912))) H;rw[e];exact q r
def lH(K:Frag):Sp:=fun vs H Q _=>∃(r:Int)(w h:Nat),vs=[.int r,.int w,.int h]/\(0<w/\w<=8/\0<h/\h<=8)/\∀(v:Int) H',aw H H'->Q (.int v) H'
variable(ic:Df P w K mg base 1 "_law_shape" ["_law_rest","_law_wide","_law_high"] (lH K))
theorem b8:aD ["_law_rest","_law_wide","_law_high","_law_found","_law_k","_law_x","_law_y","_law_held"] ["_law_rest","_law_wide","_law_high"] (aq (top 43)):=by trivial
include B in
theorem tN(T:Tx K mg "_law_shape" (top 43) ["_law_rest","_law_wide","_law_high"]):Df P w K mg base 1 "_law_shape" ["_law_rest","_law_wide","_law_high"] (lH K):=by
 refine T.df b8 (by rintro _ _ _ _ ⟨r,w,h,rfl,⟨hw,hw8,hh,hh8⟩,q⟩;rfl) ?_;rintro f _ A _ s H _ Q E hr ⟨r,w,h,rfl,⟨hw,hw8,hh,hh8⟩,q⟩;refine aQ ?_;intro kX;refine ai 2 (ao (aH (pv 3))) ?_;intro kR2 pR2;refine bR 1 3 (ao (aU (aJ kB (pv 7) (bJ ck (pv 4) (au bf (au bV (pv 0) ae) (au bX (pv 1) (pv 2))) (aI _)) (aI _)) (ao (aA (i:=3) b8.nd rfl (by trivial) (au aY (pv 3) (au fJ ae (pv 4))))) aK)) ?_;intro kS1x3 pS1x3;refine bR 1 2 (aZ (aU (aJ ck (au bf (pv 0) ae) ae (aI _)) (ao (aA (i:=7) b8.nd rfl (by trivial) (zP (bJ ck (au bf (pv 6) ae) ae (aI _)) (iT (bJ ck (pv 5) (aC bO (cM (aa (au dB (pv 1) ae) (aa ae ah))) (au bf (au bV (pv 6) ae) ae) (fun _ _=>rfl)) (aI _)))))) (ao (aU (aJ ck (au bf (pv 0) ae) ae (aI _)) (ao (aA (i:=7) b8.nd rfl (by trivial) (zP (bJ rY (pv 5) (bp (aa ae (aa (au dB (pv 1) ae) ah))) (by with_unfolding_all rfl)) (iT (bJ rY (pv 6) (bp (aa ae (aa (au dB (pv 2) ae) ah))) (by with_unfolding_all rfl)))))) (ao (aA (i:=7) b8.nd rfl (by trivial) (bJ ck (au bf (au aY (pv 5) (pv 6)) ae) (au bf (au bV (pv 0) ae) ae) (aI _))))))) pS1x3) ?_;intro kS1x2 pS1x2;refine bR 1 1 (aj (aA (i:=6) b8.nd rfl (by trivial) (au bV (pv 4) (pv 1))) pS1x2) ?_;intro kS1x1 pS1x1;refine bR 1 0 (aj (aA (i:=5) b8.nd rfl (by trivial) (au bf (pv 4) (pv 1))) pS1x1) ?_;intro kS1x0 pS1x0;refine ai 1 (aj (dz GH rfl (bU (by rfl) B.range (aa (au bX (pv 1) (pv 2)) ah)) (aR (i:=4) b8.nd rfl (by trivial)) pS1x0) pR2) ?_;intro kR1 pR1;refine⟨_,(aj (aA (i:=3) b8.nd rfl (by trivial) ae) pR1),?_⟩;have hwh:w*h<=64:=Nat.mul_le_mul hw8 hh8;have hwp:0<w*h:=Nat.mul_pos hw hh;have e1:((w:Int)*(h:Int))=((w*h:Nat):Int):=by simp
 refine⟨_,rfl,_,rfl,_,_,rfl,rfl,.inl ⟨by omega,by omega⟩,_,rfl,by omega,by omega,?_⟩;refine iH (lo:=0) (fun i σ H2=>∃v o4 o5 o6 o7,σ=[some (.int r),some (.int w),some (.int h),some (.int v),o4,o5,o6,o7]/\aw H H2) ⟨0,none,none,none,none,rfl,aw.refl _⟩ ?_ ?_
 ·rintro i σ H2 hi ⟨v,o4,o5,o6,o7,rfl,s2⟩;refine fm ?_;intro kD1;have hi':i<64:=by
   rw[e1,Hb]at hi;omega
  have y2:=Int.emod_two_eq (((0+(i:Int)) / (w:Int)) / 2);refine⟨_,rfl,_,rfl,_,_,rfl,rfl,(by omega),_,rfl,_,rfl,_,_,rfl,rfl,⟨by omega,by omega⟩,?_⟩;refine⟨fun σ' H'=>∃b,σ'=[some (.int r),some (.int w),some (.int h),some (.int v),some (.int (0+(i:Int))),some (.int ((0+(i:Int)) % (w:Int))),some (.int ((0+(i:Int)) / (w:Int))),some (.bl b)]/\aw H H',?_,?_⟩
  ·refine eJ ?_;intro kD2;refine⟨_,rfl,_,_,rfl,rfl,(by show(0:Int)<_;decide),rfl,_,rfl,?_⟩;refine bj (fun h1=>?_) (fun h1=>?_)
   ·refine⟨_,rfl,_,_,rfl,rfl,(by show(0:Int)<_;decide),rfl,_,rfl,?_⟩;refine bj (fun h2=>?_) (fun h2=>?_)
    ·exact⟨_,rfl,s2⟩
    ·refine⟨_,rfl,_,rfl,_,_,rfl,rfl,aP rfl,fun l hl=>?_⟩;have s3:=s2.trans (aw.upd (o:=.lst [.int ((w:Int)-1),.int 0]) hl);obtain⟨v3,y3⟩:∃v3:Int,atI [V.int ((w:Int)-1),.int 0] ((((0+(i:Int)) / (w:Int)) / 2) % 2)=some (.int v3):=by
      rcases y2 with y2|y2
      ·rw[y2];exact⟨_,rfl⟩
      ·rw[y2];exact⟨_,rfl⟩
     refine⟨_,rfl,_,_,rfl,rfl,⟨by decide,by decide⟩,_,_,rfl,rfl,(by show(0:Int)<_;decide),l,_,_,_,rfl,rfl,SqL.of af,y3,rfl,?_⟩;exact⟨_,rfl,s3⟩
   ·refine⟨_,rfl,_,_,rfl,rfl,(by show(0:Int)<_;decide),rfl,_,rfl,?_⟩;refine bj (fun h2=>?_) (fun h2=>?_)
    ·refine⟨_,rfl,_,rfl,_,_,rfl,rfl,aP rfl,fun t ht=>?_⟩;have s3:=s2.trans (aw.upd (o:=.tup [.int 0,.int ((w:Int)-1)]) ht);refine⟨t,_,rfl,.inr (SqT.of af),rfl,rfl,_,rfl,?_⟩;refine bj (fun h3=>?_) (fun h3=>?_)
     ·exact⟨_,rfl,s3⟩
     ·refine⟨_,rfl,_,rfl,_,_,rfl,rfl,aP rfl,fun t2 ht2=>?_⟩;have s4:=s3.trans (aw.upd (o:=.tup [.int 0,.int ((h:Int)-1)]) ht2);refine⟨t2,_,rfl,.inr (SqT.of af),rfl,rfl,?_⟩;exact⟨_,rfl,s4⟩
    ·refine⟨_,rfl,_,rfl,_,_,rfl,rfl,_,_,rfl,rfl,(by show(0:Int)<_;decide),_,rfl,_,_,rfl,rfl,⟨by decide,by decide⟩,_,_,rfl,rfl,(by show(0:Int)<_;decide),rfl,?_⟩;exact⟨_,rfl,s2⟩
  ·rintro σ' H' ⟨b,rfl,s5⟩;refine⟨_,rfl,_,rfl,_,rfl,_,_,rfl,rfl,⟨by decide,by decide⟩,_,rfl,_,rfl,_,_,rfl,rfl,.inl ⟨by omega,by omega⟩,_,_,rfl,rfl,(by rw[e1];omega),rfl,rfl,_,rfl,?_⟩;refine bj (fun h9=>?_) (fun h9=>?_)
   ·refine⟨_,rfl,_,rfl,_,_,rfl,rfl,⟨by omega,by omega,by decide⟩,_,_,rfl,rfl,?_⟩;exact⟨_,_,_,_,_,rfl,s5⟩
   ·exact⟨_,_,_,_,_,rfl,s5⟩
 ·rintro σ H2 ⟨v,o4,o5,o6,o7,rfl,s2⟩;exact⟨_,rfl,q _ _ s2⟩
def pf(K:Frag):Sp:=fun vs H Q _=>∃(c k:Nat),vs=[.int c,.int k]/\k<=64/\Q (.bl (c.testBit k)) H
variable(bo:Df P w K mg base 1 "_law_has" ["_law_ground","_law_cell"] (pf K))
theorem wc:aD ["_law_ground","_law_cell"] ["_law_ground","_law_cell"] (aq (top 45)):=by trivial
include B in
theorem wz(T:Tx K mg "_law_has" (top 45) ["_law_ground","_law_cell"]):Df P w K mg base 1 "_law_has" ["_law_ground","_law_cell"] (pf K):=by refine T.df wc (by rintro _ _ _ _ ⟨c,k,rfl,hk,q⟩;rfl) ?_;rintro f _ A _ s H _ Q E hr ⟨c,k,rfl,hk,q⟩;refine⟨_,(ao (aH (bJ ck (au bf (au pP (pv 0) (au fJ ae (pv 1))) ae) ae (aI _)))),?_⟩;refine⟨_,rfl,_,rfl,_,_,rfl,rfl,⟨by omega,by omega,by decide⟩,_,_,rfl,rfl,⟨uT _,BC k hk⟩,_,_,rfl,rfl,(by show(0:Int)<_;decide),rfl,?_⟩;rw[BY c k];exact q
def kj(K:Frag):Sp:=fun vs H Q _=>∃(w h k:Int),vs=[.int w,.int h,.int k]/\(0<w/\w<1073741824)/\∀l,H l=none->Q (.ref l) (upd H l (.lst ((Ai w h k).map V.int)))
variable(gy:Df P w K mg base 1 "_law_nearby" ["_law_wide","_law_high","_law_cell"] (kj K))
theorem kx:aD ["_law_wide","_law_high","_law_cell","_law_found"] ["_law_wide","_law_high","_law_cell"] (aq (top 46)):=by trivial
include B in
theorem qZ(T:Tx K mg "_law_nearby" (top 46) ["_law_wide","_law_high","_law_cell"]):Df P w K mg base 1 "_law_nearby" ["_law_wide","_law_high","_law_cell"] (kj K):=by
 refine T.df kx (by rintro _ _ _ _ ⟨w,h,k,rfl,hw,q⟩;rfl) ?_;rintro f _ A _ s H _ Q E hr ⟨w,h,k,rfl,hw,q⟩;refine aQ ?_;intro kX;refine ai 5 (ao (aH (pv 3))) ?_;intro kR5 pR5;refine ai 4 (aZ (aU (aJ kC (au bV (pv 2) (pv 0)) (au dB (pv 1) ae) (aI _)) (ao (cZ (kA GL G2 G1 dy (pv 3) (aa (au aY (pv 2) (pv 0)) ah)))) aK) pR5) ?_;intro kR4 pR4;refine ai 3 (aZ (aU (aJ kC (au bf (pv 2) (pv 0)) (au dB (pv 0) ae) (aI _)) (ao (cZ (kA GL G2 G1 dy (pv 3) (aa (au aY (pv 2) ae) ah)))) aK) pR4) ?_;intro kR3 pR3;refine ai 2 (aZ (aU (aJ jG (au bf (pv 2) (pv 0)) ae (aI _)) (ao (cZ (kA GL G2 G1 dy (pv 3) (aa (au dB (pv 2) ae) ah)))) aK) pR3) ?_;intro kR2 pR2;refine ai 1 (aZ (aU (aJ jG (au bV (pv 2) (pv 0)) ae (aI _)) (ao (cZ (kA GL G2 G1 dy (pv 3) (aa (au dB (pv 2) (pv 0)) ah)))) aK) pR2) ?_;intro kR1 pR1;refine⟨_,(aj (aA (i:=3) kx.nd rfl (by trivial) (cM ah)) pR1),?_⟩;refine⟨GO _,fun l hl=>?_⟩;have q':=q l hl;refine⟨fun σ' H'=>σ'=[some (.int w),some (.int h),some (.int k),some (.ref l)]/\H'=upd H l (.lst ((([]:List Int)++if decide (0<k / w)=true then[k-w]else[]).map V.int)),?_,?_⟩
 ·refine eJ ?_;intro kD1;refine⟨_,rfl,_,rfl,_,_,rfl,rfl,hw,_,_,rfl,rfl,_,rfl,?_⟩;refine bj (fun h1=>?_) (fun h1=>?_)
  ·refine⟨_,rfl,.inl ⟨rfl,_,SqL.of af⟩,_,rfl,_,rfl,_,_,rfl,rfl,l,_,_,rfl,rfl,af,?_,?_⟩
   ·exact aN (by simp only[FY,Gd,List.length_nil];(repeat' split)<;>simp)
   ·have e:(([]:List Int)++if decide (0<k / w)=true then[k-w]else[])=([]:List Int)++[k-w]:=(by rw[F8 h1]);refine⟨rfl,?_⟩;rw[bq,e];simp only[Gk,F9,HH,List.nil_append]
  ·have e:(([]:List Int)++if decide (0<k / w)=true then[k-w]else[])=([]:List Int):=(by rw[F6 h1,GF]);refine⟨rfl,?_⟩;rw[e]<;>rfl
 rintro σ' H' ⟨rfl,rfl⟩;refine⟨fun σ' H'=>σ'=[some (.int w),some (.int h),some (.int k),some (.ref l)]/\H'=upd H l (.lst (((([]:List Int)++if decide (0<k / w)=true then[k-w]else[])++if decide (0<k % w)=true then[k-1]else[]).map V.int)),?_,?_⟩
 ·refine eJ ?_;intro kD2;refine⟨_,rfl,_,rfl,_,_,rfl,rfl,hw.1,_,_,rfl,rfl,_,rfl,?_⟩;refine bj (fun h1=>?_) (fun h1=>?_)
  ·refine⟨_,rfl,.inl ⟨rfl,_,SqL.of af⟩,_,rfl,_,_,rfl,rfl,l,_,_,rfl,rfl,af,?_,?_⟩
   ·exact aN (by simp only[FY,Gd,List.length_nil];(repeat' split)<;>simp)
   ·have e:((([]:List Int)++if decide (0<k / w)=true then[k-w]else[])++if decide (0<k % w)=true then[k-1]else[])=(([]:List Int)++if decide (0<k / w)=true then[k-w]else[])++[k-1]:=(by rw[F8 h1]);refine⟨rfl,?_⟩;rw[bq,e];simp only[Gk,F9,HH,List.nil_append]
  ·have e:((([]:List Int)++if decide (0<k / w)=true then[k-w]else[])++if decide (0<k % w)=true then[k-1]else[])=(([]:List Int)++if decide (0<k / w)=true then[k-w]else[]):=(by rw[F6 h1,GF]);refine⟨rfl,?_⟩;rw[e]<;>rfl
 rintro σ' H' ⟨rfl,rfl⟩;refine⟨fun σ' H'=>σ'=[some (.int w),some (.int h),some (.int k),some (.ref l)]/\H'=upd H l (.lst ((((([]:List Int)++if decide (0<k / w)=true then[k-w]else[])++if decide (0<k % w)=true then[k-1]else[])++if decide (k % w<w-1)=true then[k+1]else[]).map V.int)),?_,?_⟩
 ·refine eJ ?_;intro kD3;refine⟨_,rfl,_,rfl,_,_,rfl,rfl,hw.1,_,rfl,_,_,rfl,rfl,_,_,rfl,rfl,_,rfl,?_⟩;refine bj (fun h1=>?_) (fun h1=>?_)
  ·refine⟨_,rfl,.inl ⟨rfl,_,SqL.of af⟩,_,rfl,_,_,rfl,rfl,l,_,_,rfl,rfl,af,?_,?_⟩
   ·exact aN (by simp only[FY,Gd,List.length_nil];(repeat' split)<;>simp)
   ·have e:(((([]:List Int)++if decide (0<k / w)=true then[k-w]else[])++if decide (0<k % w)=true then[k-1]else[])++if decide (k % w<w-1)=true then[k+1]else[])=((([]:List Int)++if decide (0<k / w)=true then[k-w]else[])++if decide (0<k % w)=true then[k-1]else[])++[k+1]:=(by rw[F8 h1]);refine⟨rfl,?_⟩;rw[bq,e];simp only[Gk,F9,HH,List.nil_append]
  ·have e:(((([]:List Int)++if decide (0<k / w)=true then[k-w]else[])++if decide (0<k % w)=true then[k-1]else[])++if decide (k % w<w-1)=true then[k+1]else[])=((([]:List Int)++if decide (0<k / w)=true then[k-w]else[])++if decide (0<k % w)=true then[k-1]else[]):=(by rw[F6 h1,GF]);refine⟨rfl,?_⟩;rw[e]<;>rfl
 rintro σ' H' ⟨rfl,rfl⟩;refine⟨fun σ' H'=>σ'=[some (.int w),some (.int h),some (.int k),some (.ref l)]/\H'=upd H l (.lst (((((([]:List Int)++if decide (0<k / w)=true then[k-w]else[])++if decide (0<k % w)=true then[k-1]else[])++if decide (k % w<w-1)=true then[k+1]else[])++if decide (k / w<h-1)=true then[k+w]else[]).map V.int)),?_,?_⟩
 ·refine eJ ?_;intro kD4;refine⟨_,rfl,_,rfl,_,_,rfl,rfl,hw,_,rfl,_,_,rfl,rfl,_,_,rfl,rfl,_,rfl,?_⟩;refine bj (fun h1=>?_) (fun h1=>?_)
  ·refine⟨_,rfl,.inl ⟨rfl,_,SqL.of af⟩,_,rfl,_,rfl,_,_,rfl,rfl,l,_,_,rfl,rfl,af,?_,?_⟩
   ·exact aN (by simp only[FY,Gd,List.length_nil];(repeat' split)<;>simp)
   ·have e:((((([]:List Int)++if decide (0<k / w)=true then[k-w]else[])++if decide (0<k % w)=true then[k-1]else[])++if decide (k % w<w-1)=true then[k+1]else[])++if decide (k / w<h-1)=true then[k+w]else[])=(((([]:List Int)++if decide (0<k / w)=true then[k-w]else[])++if decide (0<k % w)=true then[k-1]else[])++if decide (k % w<w-1)=true then[k+1]else[])++[k+w]:=(by rw[F8 h1]);refine⟨rfl,?_⟩;rw[bq,e];simp only[Gk,F9,HH,List.nil_append]
  ·have e:((((([]:List Int)++if decide (0<k / w)=true then[k-w]else[])++if decide (0<k % w)=true then[k-1]else[])++if decide (k % w<w-1)=true then[k+1]else[])++if decide (k / w<h-1)=true then[k+w]else[])=(((([]:List Int)++if decide (0<k / w)=true then[k-w]else[])++if decide (0<k % w)=true then[k-1]else[])++if decide (k % w<w-1)=true then[k+1]else[]):=(by rw[F6 h1,GF]);refine⟨rfl,?_⟩;rw[e]<;>rfl
 rintro σ' H' ⟨rfl,rfl⟩;refine⟨_,rfl,?_⟩;simp only[List.nil_append,List.append_assoc];exact q'
def nC(K:Frag):Sp:=fun vs H Q _=>∃(z:Int)(c n:Nat),vs=[.int z,.int c,.int n]/\0<n/\c<=1000/\∀k:Nat,k<n->Q (.int k) H
variable(aB:Df P w K mg base 1 "_law_pick" ["_law_cell","_law_salt","_law_many"] (nC K))
theorem nM:aD ["_law_cell","_law_salt","_law_many","_law_one"] ["_law_cell","_law_salt","_law_many"] (aq (top 49)):=by trivial
include B in
theorem uZ(T:Tx K mg "_law_pick" (top 49) ["_law_cell","_law_salt","_law_many"]):Df P w K mg base 1 "_law_pick" ["_law_cell","_law_salt","_law_many"] (nC K):=by
 refine T.df nM (by rintro _ _ _ _ ⟨z,c,n,rfl,hn,hc,q⟩;rfl) ?_;rintro f _ A _ s H _ Q E hr ⟨z,c,n,rfl,hn,hc,q⟩;refine aQ ?_;intro kX;refine ai 1 (ao (aH (au bf (au bf (au bX (pv 3) (au aY (pv 3) (pv 1))) ae) (pv 2)))) ?_;intro kR1 pR1;refine⟨_,(aj (aA (i:=3) nM.nd rfl (by trivial) (au bf (au aY (au bX (au bf (pv 0) ae) (au aY ae (au bX ae (pv 1)))) (au bX ae (pv 1))) ae)) pR1),?_⟩;have a0:=GP z (show(1000000007:Int)≠0 by decide);have a1:=GV z (show(0:Int)<1000000007 by decide);refine⟨_,rfl,_,_,rfl,rfl,(by show(0:Int)<_;decide),_,rfl,_,_,rfl,rfl,.inl ⟨by decide,by decide⟩,_,_,rfl,rfl,_,_,rfl,rfl,.inl ⟨by omega,by omega⟩,_,rfl,_,_,rfl,rfl,.inl ⟨by decide,by decide⟩,_,_,rfl,rfl,_,_,rfl,rfl,(by show(0:Int)<_;decide),?_⟩;have b0:=GP (z % 1000000007*(48271+2*(c:Int))+7919*(c:Int)) (show(1000003:Int)≠0 by decide);have b1:=GV (z % 1000000007*(48271+2*(c:Int))+7919*(c:Int)) (show(0:Int)<1000003 by decide);refine⟨_,rfl,_,rfl,_,rfl,_,_,rfl,rfl,_,_,rfl,rfl,.inl ⟨by omega,by omega⟩,_,_,rfl,rfl,(by show(0:Int)<_;decide),_,rfl,_,_,rfl,rfl,by omega,?_⟩;generalize (z % 1000000007*(48271+2*(c:Int))+7919*(c:Int)) % 1000003*((z % 1000000007*(48271+2*(c:Int))+7919*(c:Int)) % 1000003+(c:Int)) % 999983=y;have d0:=GP y (show(n:Int)≠0 by omega);have d1:=GV y (show(0:Int)<(n:Int) by omega);have e:y % (n:Int)=((y % (n:Int)).toNat:Int):=by omega
 show Q (.int (y % (n:Int))) H;rw[e];exact q _ (by omega)
def nE(K:Frag):Sp:=fun vs H Q _=>∃(k:Nat)(w:Int),vs=[.int k,.int w]/\k<6/\Q (.str (c5 w k)) H
variable(bM:Df P w K mg base 1 "_law_name" ["_law_k","_law_way"] (nE K))
theorem nN:aD ["_law_k","_law_way","_law_at_here"] ["_law_k","_law_way"] (aq (top 50)):=by trivial
include B in
theorem u3(T:Tx K mg "_law_name" (top 50) ["_law_k","_law_way"]):Df P w K mg base 1 "_law_name" ["_law_k","_law_way"] (nE K):=by
 refine T.df nN (by rintro _ _ _ _ ⟨k,w,rfl,hk,q⟩;rfl) ?_;rintro f _ A _ s H _ Q E hr ⟨k,w,rfl,hk,q⟩;refine aQ ?_;intro kX;refine ai 2 (ao (aH (au pQ (au pQ (pN zr aS tF (tE (pv 2))) (aC DS aS (pv 0) (fun _ _=>rfl))) (pN zr aS (tE (au aY (pv 2) ae)) tF)))) ?_;intro kR2 pR2;refine ai 1 (aj (aA (i:=2) nN.nd rfl (by trivial) (au bf (au bV (pv 1) ae) ae)) pR2) ?_;intro kR1 pR1;refine⟨_,(aj (aU (aJ ck (au bf (pv 1) ae) ae (aI _)) (ao (aH (au BM aS (au aY (pv 0) ae)))) aK) pR1),?_⟩;have a0:=GP (w / 2) (show(5:Int)≠0 by decide);have a1:=GV (w / 2) (show(0:Int)<5 by decide);unfold c5 nmO at q;refine⟨_,rfl,_,_,rfl,rfl,(by show(0:Int)<_;decide),rfl,_,rfl,?_⟩;refine bj (fun h1=>?_) (fun h1=>?_)
 ·have e:w % 2=0:=V.int.inj (Gu h1);rw[F8 e]at q;refine⟨_,rfl,_,_,rfl,rfl,_,_,rfl,rfl,by omega,by omega,by decide,?_⟩;exact q
 ·have e:¬w % 2=0:=fun z=>h1 (Gp (by show V.int (w % 2)=V.int 0;rw[z]));rw[F6 e]at q;refine⟨_,rfl,_,_,rfl,rfl,⟨by decide,by decide⟩,_,_,rfl,rfl,(by show(0:Int)<_;decide),?_⟩;have at_:atI (Str.ofString "pqrstu").cps.toList ((k:Nat):Int)=some (112+k):=by
   rcases (show k=0\/k=1\/k=2\/k=3\/k=4\/k=5 by omega)with z|z|z|z|z|z<;>subst z<;>decide+kernel
  have l5:(Str.ofString "landa").length<=sizeLine:=by decide+kernel
  have sl:∀lo hi,(Txt.slice (Str.ofString "landa") lo hi).length<=5:=fun lo hi=>by have:=Txt.slice_le (Str.ofString "landa") lo hi;have e5:(Str.ofString "landa").length=5:=(by decide+kernel);omega
  have z7:sizeLine>=1000:=by decide
  have c1:(⟨#[112+k]⟩:Str).length=1:=rfl;have s1:=sl none (some (w / 2 % 5));have s2:=sl (some (w / 2 % 5+1)) none;refine⟨_,rfl,_,rfl,_,rfl,l5,_,rfl,_,_,_,rfl,rfl,by decide+kernel,at_,_,_,rfl,rfl,by rw[c1];omega,?_⟩;refine⟨_,rfl,_,_,rfl,rfl,_,rfl,_,rfl,l5,_,_,rfl,rfl,?_,q⟩;rw[CA,c1];omega
def pb(K:Frag):Sp:=fun vs H Q _=>∃(t b:Int),vs=[.int t,.int b]/\0<b/\0<=t/\Bd 8000 b/\∀l,H l=none->Q (.ref l) (upd H l (.tup [.int (frT t b),.int (frB t b)]))
variable(cy:Df P w K mg base 1 "_law_low" ["_law_top","_law_bottom"] (pb K))
theorem fH:aD ["_law_top","_law_bottom","_law_one","_law_other","_law_rest"] ["_law_top","_law_bottom"] (aq (top 51)):=by trivial
include B in
theorem wy(T:Tx K mg "_law_low" (top 51) ["_law_top","_law_bottom"]):Df P w K mg base 1 "_law_low" ["_law_top","_law_bottom"] (pb K):=by
 refine T.df fH (by rintro _ _ _ _ ⟨t,b,rfl,hb,ht,bd,q⟩;rfl) ?_;rintro f _ A _ s H _ Q E hr ⟨t,b,rfl,hb,ht,bd,q⟩;refine aQ ?_;intro kX;refine ai 3 (ao (aH (bp (aa (au pP (pv 0) (pv 2)) (aa (au pP (pv 1) (pv 2)) ah))))) ?_;intro kR3 pR3;refine bR 2 2 (ao (aA (i:=3) fH.nd rfl (by trivial) (pv 4))) ?_;intro kS2x2 pS2x2;refine bR 2 1 (aj (aA (i:=2) fH.nd rfl (by trivial) (pv 3)) pS2x2) ?_;intro kS2x1 pS2x1;refine bR 2 0 (aj (aA (i:=4) fH.nd rfl (by trivial) (au xC (pv 2) (pv 3))) pS2x1) ?_;intro kS2x0 pS2x0;refine ai 2 (aj (pK GH (aJ kB (pv 3) ae (aI _)) pS2x0) pR3) ?_;intro kR2 pR2;refine ai 1 (aj (aA (i:=3) fH.nd rfl (by trivial) (pv 1)) pR2) ?_;intro kR1 pR1;refine⟨_,(aj (aA (i:=2) fH.nd rfl (by trivial) (pv 0)) pR1),?_⟩;have g:=iG (t:=t) hb;have lg:((Int.gcd t b:Nat):Int).natAbs.log2<9000:=(Bd.gcd (t:=t) bd (by omega)).log2 (by decide);refine⟨_,rfl,_,rfl,?_⟩;refine⟨fun m σ H2=>∃(f r:Int)(o:Option V),σ=[some (.int t),some (.int b),some (.int f),some (.int r),o]/\H2=H/\Int.gcd f r=Int.gcd t b/\0<=f/\0<=r/\m=r.natAbs,⟨_,_,_,_,rfl,rfl,rfl,by omega,by omega,rfl⟩,?_⟩;rintro m σ H2 ⟨f,r,o,rfl,rfl,hg,hf,hr,rfl⟩;refine⟨_,rfl,rfl,_,rfl,?_⟩;refine bj (fun h1=>?_) (fun h1=>?_)
 ·have h1':r≠0:=by
   intro z;rw[z]at h1
   revert h1
   decide
  refine⟨fun σ' H'=>∃o',σ'=[some (.int t),some (.int b),some (.int r),some (.int (f.fmod r)),o']/\H'=H2,?_,?_⟩
  ·rintro σ' H' ⟨o',rfl,rfl⟩;exact⟨_,vt f h1',r,f.fmod r,_,rfl,rfl,(vo f r).trans hg,hr,Int.fmod_nonneg_of_pos f (by omega),rfl⟩
  ·exact⟨_,rfl,_,rfl,_,_,rfl,rfl,h1',_,rfl,_,rfl,_,rfl,rfl⟩
 ·have h1':r=0:=G5 fun z=>h1 (by simp[z]);subst h1';have ef:f=(Int.gcd t b:Int):=by rw[<-hg];simp;omega
  subst ef;refine⟨_,rfl,_,rfl,_,_,rfl,rfl,⟨g,lg⟩,_,rfl,_,rfl,_,_,rfl,rfl,⟨g,lg⟩,aP rfl,fun l hl=>?_⟩;exact q l hl
def gL(K:Frag):Sp:=fun vs H Q _=>∃(k c:Int),vs=[.int k,.int c]/\(0<=k/\k<=100)/\∀H',aw H H'->Q (.int (p7 k c)) H'
variable(bC:Df P w K mg base 1 "_law_make_number" ["_law_k","_law_cell"] (gL K))
theorem kH:aD ["_law_k","_law_cell"] ["_law_k","_law_cell"] (aq (top 53)):=by trivial
include B in
theorem kO(T:Tx K mg "_law_make_number" (top 53) ["_law_k","_law_cell"]):Df P w K mg base 1 "_law_make_number" ["_law_k","_law_cell"] (gL K):=by
 refine T.df kH (by rintro _ _ _ _ ⟨k,c,rfl,⟨k0,k1⟩,q⟩;rfl) ?_;rintro f _ A _ s H _ Q E hr ⟨k,c,rfl,⟨k0,k1⟩,q⟩;refine⟨_,(ao (aH (au aY ae (au bX (au bf (au aY (au bX (pv 0) ae) (pv 1)) ae) (aC bO (cM (aa ae (aa ae ah))) (au bf (au bV (pv 1) ae) ae) (fun _ _=>rfl)))))),?_⟩;have a0:=GP (k*7919+c) (show(9973:Int)≠0 by decide);have a1:=GV (k*7919+c) (show(0:Int)<9973 by decide);refine⟨_,rfl,_,_,rfl,rfl,.inl ⟨by omega,by omega⟩,_,rfl,_,_,rfl,rfl,_,_,rfl,rfl,(by show(0:Int)<_;decide),aP rfl,fun l hl=>?_⟩;have s1:=aw.upd (o:=.lst [V.int 1,V.int 100003]) hl;have b0:=GP (c / 9973) (show(2:Int)≠0 by decide);have b1:=GV (c / 9973) (show(0:Int)<2 by decide);have hv:atI [V.int 1,V.int 100003] (c / 9973 % 2)=some (.int (if c / 9973 % 2=0 then 1 else 100003)):=by
  rcases (show c / 9973 % 2=0\/c / 9973 % 2=1 by omega)with z|z
  ·rw[z];rfl
  ·rw[z];rfl
 refine⟨_,rfl,_,_,rfl,rfl,⟨by decide,by decide⟩,_,_,rfl,rfl,(by show(0:Int)<_;decide),l,_,_,_,rfl,rfl,SqL.of af,hv,_,_,rfl,rfl,.inl ⟨by omega,by omega⟩,_,_,rfl,rfl,?_⟩;exact q _ s1
def gI(K:Frag):Sp:=fun vs H Q _=>∃(d:Addr)(kvs:List (Key×V))(g:Nat->Option Col)(ks:List Nat),vs=[.ref d]/\H d=some (.dK kvs)/\GD K H kvs g/\(kvs.map fun q=>kV q.1)=NV ks/\ks.Pairwise (·<·)/\ks.length<=64/\(∀i,i∈ks<->(g i).isSome=true)/\(∀i∈ks,i<64)/\∀l R H',aw H H'->StrT K H' l R->ij g R->Q (.ref l) H'
variable(dH:Df P w K mg base 1 "_law_make_strips" ["_law_columns"] (gI K))
theorem cf:aD ["_law_columns","_law_found","_law_places","_law_cell","_law_column"] ["_law_columns"] (aq (top 57)):=by trivial
include B in
theorem kL(T:Tx K mg "_law_make_strips" (top 57) ["_law_columns"]):Df P w K mg base 1 "_law_make_strips" ["_law_columns"] (gI K):=by
 refine T.df cf (by rintro _ _ _ _ ⟨d,kvs,g,ks,rfl,hd,hg,hk,ndk,lk,memk,k64,q⟩;rfl) ?_;rintro f _ A _ s H _ Q E hr ⟨d,kvs,g,ks,rfl,hd,hg,hk,ndk,lk,memk,k64,q⟩;have hu:=hr.units;refine aQ ?_;intro kX;refine ai 3 (ao (aH (bL eK (by rfl) B.tuple boot_tuple (aa (bZ ["_law_one"] [] (gg _ []) rfl (by rfl) rfl (by trivial) (by trivial) (aW (by rfl)) (cR (by rfl)) mN mN (b6 (by decide)) (dE (pv 1)) (fun _ _ _ _=>aR (i:=0) (show(["_law_one"]:List Str).Nodup by trivial) rfl (Or.inl rfl) (Or.inr rfl)) (fun _ _ _ _=>cC) (fun _ _ _ _=>(bp (aa (aC (mm (K:=K) rfl) (pv 0) ae (fun _ _=>rfl)) (aa (aC (mm (K:=K) rfl) (pv 0) ae (fun _ _=>rfl)) ah))))) ah)))) ?_;intro kR3 pR3;refine bR 2 2 (ao (wm (au aY (aC bO (aC bO (pv 1) (xB hu (pv 2) (pv 4) (fun _ _=>rfl)) (fun _ _=>rfl)) ae (fun _ _=>rfl)) (au fJ ae (pv 3))) (zO (aC bO (pv 1) (xB hu (pv 2) (pv 4) (fun _ _=>rfl)) (fun _ _=>rfl)) ae set_list))) ?_;intro kS2x2 pS2x2;refine bR 2 1 (aZ (aU (Ds (ym hu (pv 4) (pv 2))) (aj (BB hu (pv 2) (pv 4) (aT bG (by rfl) B.len Ht (aa (pv 1) ah)) rfl) (ao (cZ (kA GL G2 G1 dy (pv 1) (aa (cM (aa ae (aa (pv 4) ah))) ah))))) aK) pS2x2) ?_;intro kS2x1 pS2x1;refine bR 2 0 (aj (aA (i:=4) cf.nd rfl (by trivial) (iV (fC hr) (pv 0) (pv 3) (fun _ _=>rfl))) pS2x1) ?_;intro kS2x0 pS2x0;refine ai 2 (aj (dz GH rfl (dE (aT (LT.wZ rfl) (by rfl) B.sorted (by trivial) (aa (pv 0) ah))) (aR (i:=3) cf.nd rfl (by trivial)) pS2x0) pR3) ?_;intro kR2 pR2;refine ai 1 (aj (aA (i:=2) cf.nd rfl (by trivial) zU) pR2) ?_;intro kR1 pR1;refine⟨_,(aj (aA (i:=1) cf.nd rfl (by trivial) (cM ah)) pR1),?_⟩;refine⟨aP rfl,fun l1 hl1=>?_⟩;refine fun dp hdp hsm=>?_;have n12:l1≠dp:=fun e=>by rw[<-e,af]at hdp;cases hdp
 have hdp0:H dp=none:=by rw[<-hdp,az n12.symm]
 have s0:aw H (upd (upd H l1 (.lst [])) dp (jM dp kZ)):=(aw.upd hl1).trans (aw.upd hdp);have M0:MsG P w K H (upd (upd H l1 (.lst [])) dp (jM dp kZ)) l1 dp (bx g 0) (msk g 0) [] kZ []:=⟨s0,hl1,hdp0,(fun _ z=>nomatch z),(by rw[az n12];exact af),(fun z=>nomatch z),List.nodup_nil,.nil,⟨af,wX _ _,hsm,(fun _ z=>nomatch z)⟩,.nil⟩;refine⟨_,rfl,d,kvs,ks.map (fun k:Nat=>(k:Int)),rfl,.inl (s0 _ _ hd),by rw[hk,List.map_map];rfl,by rw[FY];omega,List.pairwise_map.mpr (ndk.imp fun h=>by omega),fun l3 ns' hl3 pm so=>?_⟩;obtain⟨cs,pc,rfl⟩:=LT.uU pm;have n31:l3≠l1:=fun z=>by rw[z,az n12,af]at hl3;cases hl3
 have soc:cs.Pairwise (·<·):=by
  have h1:cs.Pairwise (·<=·):=by rw[List.pairwise_map]at so;exact so.imp fun h=>by omega
  have h2:=List.nodup_iff_pairwise_ne.mp (pc.nodup_iff.mpr (ndk.imp Gz));exact(h1.and h2).imp fun⟨a,b⟩=>by omega
 have memc:∀i,i∈cs<->(g i).isSome=true:=fun i=>by rw[pc.mem_iff];exact memk i
 have c64:∀i∈cs,i<64:=fun i hi=>k64 i (pc.mem_iff.mp hi);have lc:=pc.length_eq;refine⟨l3,rfl,⟨_,SqL.of af⟩,fZ (K:=K) (a:=l3) (xs:=(cs.map fun k:Nat=>(k:Int)).map V.int) (fun i σ H2=>∃(o3 o4:Option V)(m:Nat)(as:List Addr)(o:Obj)(T:CT),σ=[some (.ref d),some (.ref l1),some (.ref dp),o3,o4]/\H2 l3=some (.lst ((cs.map fun k:Nat=>(k:Int)).map V.int))/\MsG P w K H H2 l1 dp (bx g m) (msk g m) as o T/\m<=64/\¬l3∈as/\∀t,t∈cs.take i<->t∈cs/\t<m) ?_ ?_ ?_ ?_⟩
 ·exact⟨none,none,0,[],kZ,[],rfl,af,M0.same (aw.upd hl3),by decide,(fun z=>nomatch z),fun t=>by simp⟩
 ·rintro i σ H2 _ ⟨o3,o4,m,as,o,T,rfl,h3,_⟩;exact SqL.of h3
 ·rintro i y σ H2 hi ⟨o3,o4,m,as,o,T,rfl,h3,M,m64,nl3,tk⟩;refine fm ?_;intro kD1;obtain⟨c,hc,rfl⟩:∃c,cs[i]?=some c/\y=.int ((c:Nat):Int):=by
   rw[Gn,Gn]at hi;cases e:cs[i]? with
   |none=>rw[e]at hi;cases hi
   |some c=>rw[e]at hi;cases hi;exact⟨c,rfl,rfl⟩
  have cm:c∈cs:=Gb hc;have c6:=c64 c cm;obtain⟨b,col,e1,e2,hb0⟩:∃b col,eu kvs (.inl (c:Int))=some (.ref b)/\g c=some col/\eO K H b col:=by
   rcases hg c with z|z
   ·have:=(memc c).mp cm;rw[z.2]at this;cases this
   ·exact z
  have pt:=xq soc hc;have mc:m<=c:=G5 fun z=>by have:=(pt c).mp ((tk c).mpr ⟨cm,by omega⟩);omega
  have none':∀j,m<=j->j<c->g j=none:=fun j h1 h2=>by
   cases e:g j with
   |none=>rfl
   |some x=>have jm:j∈cs:=(memc j).mpr (by rw[e];rfl);have:=((tk j).mp ((pt j).mpr ⟨jm,h2⟩)).2;omega
  obtain⟨ed,em⟩:=k7 mc none';have M1:MsG P w K H H2 l1 dp (bx g c) (msk g c) as o T:=by rw[ed];exact M.congr fun x=>(em x).symm
  have hd2:=M1.sm _ _ hd;have dg:=jj.k (k:=.inl (c:Int)) hd2;rw[e1]at dg;have hb2:=hb0.tk M1.sm.tk;have dl:=nk g c;refine⟨_,rfl,_,rfl,d,_,rfl,dg,?_⟩;refine⟨fun σ' H'=>∃(as:List Addr)(o:Obj)(T:CT),σ'=[some (.ref d),some (.ref l1),some (.ref dp),some (.int (c:Nat)),some (.ref b)]/\H' l3=some (.lst ((cs.map fun k:Nat=>(k:Int)).map V.int))/\MsG P w K H H' l1 dp (bx g (c+1)) (msk g c) as o T/\¬l3∈as/\eO K H' b col,?_,?_⟩
  ·refine eJ ?_;intro kD2;refine⟨_,rfl,_,rfl,dp,o,T,b,col,rfl,M1.co,rfl,hb2,_,rfl,?_⟩;by_cases hin:col∈bx g c
   ·obtain⟨j,hj,ej⟩:=List.getElem_of_mem hin;rw[M1.place (mw g c) (j:=j) (c:=col) (by rw[Gh hj,ej])];refine fq ?_;exact⟨as,o,T,rfl,h3,by rw[mB e2 hin];exact M1,nl3,hb2⟩
   ·rw[M1.noplace hin];refine jh ?_;have la:=M1.len;have lt:=M1.tlen;refine⟨_,rfl,l1,_,rfl,.inl (SqL.of M1.hl),_,rfl,_,rfl,dp,o,T,b,col,rfl,M1.co,rfl,hb2,by omega,fun o' ho'=>?_⟩;rw[FY]at ho';have d1:l1≠dp:=n12;have hl5:(upd H2 dp (jM dp o')) l1=some (.lst (as.map V.ref)):=(by rw[az d1];exact M1.hl);refine⟨_,rfl,.inl ⟨rfl,_,SqL.of hl5⟩,_,rfl,aP rfl,fun a5 ha5=>?_⟩;have a5l:l1≠a5:=fun z=>by rw[<-z,hl5]at ha5;cases ha5
    have a53:l3≠a5:=fun z=>by rw[<-z,az (hW h3 M1.co.1 (fun z=>nomatch z)),h3]at ha5;cases ha5
    have hl6:(upd (upd H2 dp (jM dp o')) a5 (.lst [.int 0,.ref b])) l1=some (.lst (as.map V.ref)):=(by rw[az a5l];exact hl5);refine⟨l1,_,_,rfl,rfl,hl6,aN (by rw[FY];omega),?_⟩;have MN:=M1.new hin (BU hin) hb2 ho' ha5;refine⟨as++[a5],o',_,rfl,?_,by rw[jY e2 hin];exact MN,fun z=>?_,hb0.tk MN.sm.tk⟩
    ·rw[az n31,az a53,az (hW h3 M1.co.1 (fun z=>nomatch z))];exact h3
    ·rcases Gj.mp z with y|y
     ·exact nl3 y
     ·exact a53 (F2.mp y)
  ·rintro σ' H5 ⟨as,o,T,rfl,h35,M5,nl5,hb5⟩;clear M M1 dg tk;have cin:col∈bx g (c+1):=(gF g col (c+1)).mpr ⟨c,by omega,e2⟩;have nd:=mw g (c+1);obtain⟨j,hj,ej⟩:=List.getElem_of_mem cin;have hj':(bx g (c+1))[j]?=some col:=(by rw[Gh hj,ej]);have la:=M5.len;have ja:j<as.length:=(by omega);have haj:as[j]?=some as[j]:=Gh ja;obtain⟨col',e5,b',ha,hb'⟩:=aX M5.pr haj;rw[hj']at e5;cases e5;have pla:=M5.place nd hj';have hat:atI (as.map V.ref) ((j:Nat):Int)=some (.ref as[j]):=av (by rw[Gn,haj];rfl);have ex:((msk g c col:Nat):Int)+1*2^((c:Nat):Int).toNat=((msk g c col+2^c:Nat):Int):=by
    rw[Int.one_mul,Hb,Int.natCast_add,Int.natCast_pow];rfl
   refine⟨_,rfl,_,rfl,_,rfl,dp,o,T,b,col,_,rfl,M5.co,rfl,hb5,pla,l1,_,_,_,rfl,rfl,SqL.of M5.hl,hat,as[j],_,_,_,rfl,rfl,SqL.of ha,av (j:=0) rfl,_,rfl,_,_,rfl,rfl,⟨by omega,by omega,by decide⟩,_,_,rfl,rfl,?_⟩;refine⟨_,rfl,_,rfl,_,rfl,dp,o,T,b,col,_,rfl,M5.co,rfl,hb5,pla,l1,_,_,_,rfl,rfl,SqL.of M5.hl,hat,as[j],_,_,0,rfl,rfl,ha,xN (j:=0) (by simp),?_⟩;show ∃(o3 o4:Option V)(m:Nat)(as':List Addr)(o:Obj)(T:CT),_/\(upd H5 as[j] (.lst [V.int (((msk g c col:Nat):Int)+1*2^((c:Nat):Int).toNat),.ref b'])) l3=_/\MsG P w K H (upd H5 as[j] (.lst [V.int (((msk g c col:Nat):Int)+1*2^((c:Nat):Int).toNat),.ref b'])) l1 dp _ _ as' o T/\_;rw[ex];refine⟨_,_,c+1,as,o,T,rfl,?_,(M5.bump nd (x:=msk g c col+2^c) hj' haj ha hb').congr fun y=>?_,by omega,nl5,zI soc hc⟩
   ·rw[az (fun z=>nl5 (by rw[z];exact Hv ja))];exact h35
   ·show(if y=col then _ else _)=(if g c=some y then _ else _);by_cases z:y=col
    ·subst z;rw[F8 rfl,F8 e2]
    ·rw[F6 z,F6 (fun q=>z (by rw[e2]at q;exact(GB q).symm))]
 ·rintro σ H2 ⟨o3,o4,m,as,o,T,rfl,h3,M,m64,nl3,tk⟩;rw[FY,FY,GK]at tk;obtain⟨ed,em⟩:=k7 (g:=g) m64 fun j h1 h2=>by
   cases e:g j with
   |none=>rfl
   |some x=>have:=((tk j).mp ((memc j).mpr (by rw[e];rfl))).2;omega
  have M1:MsG P w K H H2 l1 dp (bx g 64) (msk g 64) as o T:=by rw[ed];exact M.congr fun x=>(em x).symm
  have la:=M1.len;have dl:=nk g 64;clear M tk ed em;refine⟨_,rfl,l1,rfl,⟨_,SqL.of M1.hl⟩,fun D hD=>?_⟩;refine qq (K:=K) (a:=l1) (xs:=as.map V.ref) (fun i acc H3=>aw H2 H3/\H3 D=some (.lst acc)/\Paired (qA K H3) acc (((bx g 64).take i).map fun c=>(msk g 64 c,c))) ⟨aw.upd hD,af,.nil⟩ (fun i acc H3 _ ⟨s3,_⟩=>SqL.of (s3 _ _ M1.hl)) ?_ ?_
  ·rintro i x acc H3 hi ⟨s3,h3,pr3⟩;refine fo ?_;intro kq3 kr3;obtain⟨a,ha,rfl⟩:∃a,as[i]?=some a/\x=.ref a:=by
    rw[Gn]at hi;cases e:as[i]? with
    |none=>rw[e]at hi;cases hi
    |some a=>rw[e]at hi;cases hi;exact⟨a,rfl,rfl⟩
   obtain⟨c,hc,b,e,hb⟩:=aX M1.pr ha;have il:i<as.length:=(Gr.mp ha).1;refine⟨_,rfl,a,_,_,_,rfl,rfl,SqL.of (s3 _ _ e),av (j:=0) rfl,_,rfl,a,_,_,_,rfl,rfl,SqL.of (s3 _ _ e),av (j:=1) rfl,aP rfl,fun r4 hr4=>?_⟩;have s4:=aw.upd (o:=.tup [.int (msk g 64 c:Nat),.ref b]) hr4;have lacc:acc.length<sizeLine:=by rw[Gi pr3,FY,G0];exact aN (by omega)
   refine⟨s4 _ _ h3,lacc,?_,af,?_⟩
   ·intro b5 o5 e5;rw[az (fun z=>by rw[z,hD]at e5;cases e5)];exact s4 _ _ (s3 _ _ e5)
   ·rw[GI,hc,GX,Gk];have tk2:=TK.lst (o:=.lst (acc++[.ref r4])) (s4 _ _ h3);exact Paired.app (Paired.imp (fun _ _ z=>(z.tk s4.tk).tk tk2) pr3) (.cons (qA.tk tk2 ⟨r4,b,rfl,SqT.of af,hb.tk (s3.trans s4).tk⟩) .nil)
  ·rintro acc H3 ⟨s3,h3,pr3⟩;rw[FY,la,GK]at pr3;refine⟨D,_,rfl,.inl ⟨SqL.of h3,fun l6 hl6=>?_⟩⟩;have s6:=aw.upd (o:=.tup acc) hl6;exact q l6 _ _ (M1.sm.trans (s3.trans s6)) ⟨acc,SqT.of af,Paired.imp (fun _ _ z=>z.tk s6.tk) pr3⟩ (v7 g)
def gP(K:Frag):Sp:=fun vs H Q _=>∃(v:V)(p:Plt)(rs:List (List Key)),vs=[v]/\PlE K H v p/\qB rs p.R/\∀(l:Addr)(ys:List V)(T:Col) H',aw H H'->H' l=some (.lst ys)->Paired (eQ K H') ys T->mF (p.R.map (·.2)) T->Q (.ref l) H'
variable(bD:Df P w K mg base 1 "_law_all_burdens" ["_law_plot"] (gP K))
theorem cj:aD ["_law_plot","_law_found","_law_cells","_law_column","_law_burden"] ["_law_plot"] (aq (top 65)):=by trivial
include B in
theorem kS(T:Tx K mg "_law_all_burdens" (top 65) ["_law_plot"]):Df P w K mg base 1 "_law_all_burdens" ["_law_plot"] (gP K):=by
 refine T.df cj (by rintro _ _ _ _ ⟨v,p,rs,rfl,hp,hN,q⟩;rfl) ?_;rintro f _ A _ s H _ Q E hr ⟨v,p,rs,rfl,hp,hN,q⟩;have hu:=hr.units;refine aQ ?_;intro kX;refine ai 2 (ao (aH (bZ ["_law_number"] [("_law_found",1)] (gg _ ["_law_found"]) rfl (by rfl) rfl (by trivial) (by trivial) (aW (by rfl)) (cR (by rfl)) (mC ⟨rfl,rfl⟩ mN) (mC rfl mN) (b6 (by decide)) (dE (aT (qv rfl) (by rfl) B.sorted (by trivial) (aa (pv 1) ah))) (fun _ _ _ _=>aR (i:=0) (show(["_law_number","_law_found"]:List Str).Nodup by trivial) rfl (Or.inl rfl) (Or.inr rfl)) (fun _ _ _ _=>cC) (fun _ _ _ _=>(iV (fC hr) (pv 1) (pv 0) (fun _ _=>rfl)))))) ?_;intro kR2 pR2;refine ai 1 (aj (dz GH rfl (iq (aC aF (pv 0) ae (fun _ _=>rfl))) (tH rfl (fu (aR (i:=2) cj.nd rfl (by trivial)) (fu (aR (i:=3) cj.nd rfl (by trivial)) oA))) (ao (dz GH rfl (iq (pv 3)) (aR (i:=4) cj.nd rfl (by trivial)) (ao (iS (fC hr) (pv 1) (aC aF (pv 4) ae (fun _ _=>rfl)) (pv 4) rfl))))) pR2) ?_;intro kR1 pR1;refine⟨_,(aj (aA (i:=1) cj.nd rfl (by trivial) pO) pR1),?_⟩;obtain⟨l,ls,lr,rfl,h1,h2,xs,hl,pr⟩:=hp;have nd:=hN.nd;have hib:=hN.bur;have hsub:∀c∈p.R.map (·.2),∀r∈c,r∈rs:=fun c hc r hr=>by obtain⟨q0,hq0,rfl⟩:=Ge.mp hc;exact hN.sub q0 hq0 r hr
 have inj:=wC nd;have lx:xs.length=(p.R.map (·.2)).length:=by rw[FY];exact Gi pr
 have hrs:=hN.l59;have len:∀(D:List (List Key)),(D.map bh).Nodup->(∀r∈D,r∈rs)->D.length<=59:=fun D n1 h1=>by
  have:=List.Nodup.length_le_of_subset n1 (l₂:=rs.map bh) fun x hx=>by obtain⟨r,hr,e⟩:=Ge.mp hx;exact Ge.mpr ⟨r,h1 r hr,e⟩
  rw[FY,FY]at this;omega
 intro d hd;refine⟨_,rfl,l,_,_,_,rfl,rfl,(aw.upd hd).tup h1,av (j:=2) rfl,lr,rfl,⟨_,(aw.upd hd).tup hl⟩,i0 (K:=K) (a:=lr) (xs:=xs) (fun i σ H2=>∃(o1 o2 o3:Option V)(kvs:List (Key×V))(D:List (List Key)),σ=[some (.ref l),some (.ref d),o1,o2,o3]/\H2=upd H d (.dK kvs)/\Paired (KB K H) kvs D/\(D.map bh).Nodup/\∀r,r∈D<->∃c∈(p.R.map (·.2)).take i,r∈c) ⟨none,none,none,[],[],rfl,rfl,.nil,List.nodup_nil,fun r=>by simp⟩ (fun i σ H2 _ hPz=>hPz.elim fun _ hPz=>hPz.elim fun _ hPz=>hPz.elim fun _ hPz=>hPz.elim fun _ hPz=>hPz.elim fun _ hPz=>(fun e=>by rw[e];exact(aw.upd hd).tup hl) (hPz.2.1)) ?_ ?_⟩
 ·rintro i y σ H2 hi ⟨o1,o2,o3,kvs,D,rfl,rfl,kb,nd2,hD⟩;refine fm ?_;intro kD1;obtain⟨q0,hq0,r1,b,rfl,hr1,hb⟩:=aX pr hi;obtain⟨c,ec⟩:∃c,c=q0.2:=⟨_,rfl⟩;rw[<-ec]at hb;have hc:(p.R.map (·.2))[i]?=some c:=by rw[Gn,hq0,ec];rfl
  have cin:=Gb hc;obtain⟨lay,ys,hy,py⟩:=id hb;have ly:ys.length=c.length:=Gi py;refine⟨r1,_,rfl,(aw.upd hd).tup hr1,rfl,_,_,rfl,_,_,rfl,rfl,?_⟩;refine⟨_,rfl,b,rfl,⟨_,(aw.upd hd).tup hy⟩,i0 (K:=K) (a:=b) (xs:=ys) (fun j σ H2=>∃(o3:Option V)(kvs:List (Key×V))(D:List (List Key)),σ=[some (.ref l),some (.ref d),some (.int (q0.1:Nat)),some (.ref b),o3]/\H2=upd H d (.dK kvs)/\Paired (KB K H) kvs D/\(D.map bh).Nodup/\∀r,r∈D<->(∃c'∈(p.R.map (·.2)).take i,r∈c')\/r∈c.take j) ⟨o3,kvs,D,rfl,rfl,kb,nd2,fun r=>by rw[hD];simp⟩ (fun j σ H2 _ hPz=>hPz.elim fun _ hPz=>hPz.elim fun _ hPz=>hPz.elim fun _ hPz=>(fun e=>by rw[e];exact(aw.upd hd).tup hy) (hPz.2.1)) ?_ ?_⟩
  ·rintro j y σ H2 hj ⟨o3',kvs',D',rfl,rfl,kb',nd',hD'⟩;refine fm ?_;intro kD2;obtain⟨r,hr,a,rfl,ha⟩:=aX py hj;have rin:r∈c:=Gb hr;have rrs:=hsub c cin r rin;have bur:eQ K H (.ref a) r:=⟨lay r rin,a,rfl,ha⟩;have Dsub:∀x∈D',x∈rs:=fun x hx=>by
    rcases (hD' x).mp hx with⟨c',hc',z⟩|z
    ·exact hsub c' (List.mem_of_mem_take hc') x z
    ·exact hsub c cin x (List.mem_of_mem_take z)
   have ub:∀x∈D',bh x=bh r->x=r:=fun x hx e=>inj x (Dsub x hx) r rrs e;have lk:kvs'.length<=59:=(by rw[Gi kb'];exact len D' nd' Dsub);have put:=Au bur kb' ub;have fin:∀x,x∈rB D' r<->(∃c'∈(p.R.map (·.2)).take i,x∈c')\/x∈c.take (j+1):=fun x=>by rw[vQ ub,hD',GI,hr,GX,Gj,F2,or_assoc]
   have nda:=x3 (r:=r) nd';obtain⟨n,k,x,m,u,er⟩:=hib r rrs;have en:bh r=n:=(by rw[er];rfl);rw[en]at put;rw[er]at ha;refine⟨_,rfl,_,rfl,_,rfl,a,_,_,_,rfl,rfl,(aw.upd hd).tup ha,(av (j:=0) rfl),d,_,rfl,qG.k (k:=.inl n) af (aN (by omega)),?_⟩;exact⟨_,_,rB D' r,rfl,by rw[bq],put,nda,fin⟩
  ·rintro σ H2 ⟨o3',kvs',D',rfl,rfl,kb',nd',hD'⟩;refine⟨_,_,_,kvs',D',rfl,rfl,kb',nd',fun r=>?_⟩;rw[hD',ly,GK,GI,hc,GX];constructor
   ·rintro(⟨c',h1,h2⟩|h)
    ·exact⟨c',GC _ h1,h2⟩
    ·exact⟨c,Gx _ (F2.mpr rfl),h⟩
   ·rintro⟨c',h1,h2⟩;rcases Gj.mp h1 with z|z
    ·exact .inl ⟨c',z,h2⟩
    ·rw[F2.mp z]at h2;exact .inr h2
 ·rintro σ H2 ⟨o1,o2,o3,kvs,D,rfl,rfl,kb,nd2,hD⟩;rw[lx,GK]at hD;have Dsub:∀x∈D,x∈rs:=fun x hx=>by
   obtain⟨c',hc',z⟩:=(hD x).mp hx;exact hsub c' hc' x z
  have lD:=len D nd2 Dsub;have s1:=aw.upd (o:=.dK kvs) hd;have hd1:(upd H d (.dK kvs)) d=some (.dK kvs):=af;generalize (upd H d (.dK kvs))=H1 at s1 hd1 ⊢;refine⟨_,rfl,d,kvs,D.map bh,rfl,.inl hd1,xK kb,by rw[FY];omega,fun l4 ns' hl4 pm so=>?_⟩;have s4:=aw.upd (o:=.lst (ns'.map V.int)) hl4;have h4:(upd H1 l4 (.lst (ns'.map V.int))) l4=some (.lst (ns'.map V.int)):=af;have ln:ns'.length<=59:=by rw[pm.length_eq,FY];exact lD
  have hd4:=s4 _ _ hd1;have s14:=s1.trans s4;generalize (upd H1 l4 (.lst (ns'.map V.int)))=H4 at s4 h4 hd4 s14 ⊢;refine⟨l4,rfl,⟨_,SqL.of h4⟩,fun A1 hA1=>?_⟩;refine qq (K:=K) (a:=l4) (xs:=ns'.map V.int) (fun i acc H5=>H5=upd H4 A1 (.lst acc)/\∃T:List (List Key),Paired (eQ K H) acc T/\T.map bh=ns'.take i/\∀r∈T,r∈D) ⟨rfl,[],.nil,rfl,fun _ z=>nomatch z⟩ (fun i acc H5 _ ⟨e,_⟩=>by rw[e];exact(aw.upd hA1).seq (SqL.of h4)) ?_ ?_
  ·rintro i y acc H5 hi ⟨rfl,T,pT,mT,sT⟩;refine fo ?_;intro kq3 kr3;obtain⟨n,hn,rfl⟩:∃n,ns'[i]?=some n/\y=.int n:=by
    rw[Gn]at hi;cases e:ns'[i]? with
    |none=>rw[e]at hi;cases hi
    |some n=>rw[e]at hi;cases hi;exact⟨n,rfl,rfl⟩
   obtain⟨v,r,ev,hr,er,hv⟩:=As kb (pm.mem_iff.mp (Gb hn));have dg:=jj.k (k:=.inl n) ((aw.upd (o:=.lst acc) hA1) _ _ hd4);rw[ev]at dg;refine⟨_,rfl,_,rfl,d,_,rfl,dg,af,aN ?_,by rw[bq],T++[r],Paired.app pT (.cons hv .nil),?_,fun x hx=>?_⟩
   ·have l1:acc.length=T.length:=Gi pT;have l2:=congrArg List.length mT;rw[FY,G0]at l2;omega
   ·rw[Gk,mT,GI,hn,GX,F9,HH,er]
   ·rcases Gj.mp hx with z|z
    ·exact sT x z
    ·rw[F2.mp z];exact hr
  ·rintro acc H5 ⟨rfl,T,pT,mT,sT⟩;rw[FY,GK]at mT;have s5:=aw.upd (o:=.lst acc) hA1;exact q A1 acc T _ (s14.trans s5) af (Paired.imp (fun _ _ z=>eQ.tk (s14.trans s5).tk z) pT) (C3 nd2 hD pm so mT sT)
def jr(K:Frag):Sp:=fun vs H Q _=>∃(l sg:Addr)(ss xs:List Str),vs=[.ref l,.ref sg]/\SqL K H l (SV xs)/\SqT K H sg (SV ss)/\(∀x∈ss,PyData.canLay0 (.str x)=true)/\(∀x∈xs,PyData.canLay0 (.str x)=true)/\Q (CK (ft ss xs)) H
variable(fR:Df P w K mg base 1 "_law_wanting" ["_law_names","_law_signed"] (jr K))
theorem jx:aD ["_law_names","_law_signed","_law_name_here"] ["_law_names","_law_signed"] (aq (top 67)):=by trivial
include B in
theorem pW(T:Tx K mg "_law_wanting" (top 67) ["_law_names","_law_signed"]):Df P w K mg base 1 "_law_wanting" ["_law_names","_law_signed"] (jr K):=by
 refine T.df jx (by rintro _ _ _ _ ⟨l,sg,ss,xs,rfl,hl,hs,lss,lxs,q⟩;rfl) ?_;rintro f _ A _ s H _ Q E hr ⟨l,sg,ss,xs,rfl,hl,hs,lss,lxs,q⟩;have hu:=hr.units;refine aQ ?_;intro kX;refine ai 1 (ao (aH dA)) ?_;intro kR1 pR1;refine⟨_,(aj (dz GH rfl (dE (pv 0)) (aR (i:=2) jx.nd rfl (by trivial)) (ao (aU (aJ (mS hu) (pv 2) (pv 1) (by with_unfolding_all rfl)) (ao (aH (pv 2))) aK))) pR1),?_⟩;refine⟨_,rfl,l,rfl,⟨_,hl⟩,fZ (K:=K) (a:=l) (xs:=SV xs) (fun i σ H2=>∃o2:Option V,σ=[some (.ref l),some (.ref sg),o2]/\H2=H/\ft ss xs=ft ss (xs.drop i)) ⟨none,rfl,rfl,rfl⟩ (fun i σ H2 _ hPz=>hPz.elim fun _ hPz=>(fun e=>by rw[e];exact hl) (hPz.2.1)) ?_ ?_⟩
 ·rintro i y σ H2 hi ⟨o2,rfl,rfl,e⟩;refine fm ?_;intro kD1;obtain⟨x,hx,rfl⟩:∃x,xs[i]?=some x/\y=.str x:=by
   rw[show SV xs=xs.map V.str from rfl,Gn]at hi;cases e:xs[i]? with
   |none=>rw[e]at hi;cases hi
   |some x=>rw[e]at hi;cases hi;exact⟨x,rfl,rfl⟩
  rw[jX hx,rF]at e;refine⟨_,rfl,_,rfl,.str x,ss.map PyData.str,.str _,.inr (.tup hs (jV ss)),lxs x (Gb hx),qg lss,Gq rfl,_,rfl,?_⟩;rw[vP];refine bj (fun h2=>?_) (fun h2=>?_)
  ·have h2':x∉ss:=(by simpa using h2);rw[F6 h2']at e;rw[e]at q;exact⟨_,rfl,q⟩
  ·have h2':x∈ss:=(by simpa using h2);rw[F8 h2']at e;exact⟨_,rfl,rfl,e⟩
 ·rintro σ H2 ⟨o2,rfl,rfl,e⟩;rw[show(SV xs).length=xs.length from FY _,List.drop_length]at e;rw[e]at q;exact q
def jc(K:Frag):Sp:=fun vs H Q _=>∃(a:Addr)(S:Sh)(x:Str),vs=[.ref a,.str x]/\ShT K H a S/\∀p H',aw H H'->SqT K H' p [.int (aG S x).1,.int (aG S x).2]->Q (.ref p) H'
variable(cu:Df P w K mg base 1 "_law_share_of" ["_law_shares","_law_name_here"] (jc K))
theorem gb:aD ["_law_shares","_law_name_here","_law_other","_law_share"] ["_law_shares","_law_name_here"] (aq (top 69)):=by trivial
include B in
theorem n6(T:Tx K mg "_law_share_of" (top 69) ["_law_shares","_law_name_here"]):Df P w K mg base 1 "_law_share_of" ["_law_shares","_law_name_here"] (jc K):=by
 refine T.df gb (by rintro _ _ _ _ ⟨a,S,x,rfl,hA,q⟩;rfl) ?_;rintro f _ A _ s H _ Q E hr ⟨a,S,x,rfl,hA,q⟩;refine aQ ?_;intro kX;refine ai 1 (ao (aH (bp (aa ae (aa ae ah))))) ?_;intro kR1 pR1;refine⟨_,(aj (dz GH rfl (iq (pv 0)) (tH rfl (fu (aR (i:=2) gb.nd rfl (by trivial)) (fu (aR (i:=3) gb.nd rfl (by trivial)) oA))) (ao (aU (aJ ck (pv 2) (pv 1) (aI _)) (ao (aH (pv 3))) aK))) pR1),?_⟩;obtain⟨vs,ha,r⟩:=hA;refine⟨_,rfl,a,rfl,⟨_,ha⟩,i0 (K:=K) (a:=a) (xs:=vs) (fun i σ H2=>∃o2 o3:Option V,σ=[some (.ref a),some (.str x),o2,o3]/\H2=H/\aG S x=aG (S.drop i) x) ⟨none,none,rfl,rfl,rfl⟩ (fun i σ H2 _ hPz=>hPz.elim fun _ hPz=>hPz.elim fun _ hPz=>(fun e=>by rw[e];exact ha) (hPz.2.1)) ?_ ?_⟩
 ·rintro i y σ H2 hi ⟨o2,o3,rfl,rfl,hat⟩;refine fm ?_;intro kD1;obtain⟨p,hp,r1,q1,rfl,h1,h2⟩:=aX r hi;rw[jX hp,fk]at hat;refine⟨r1,_,rfl,h1,rfl,_,_,rfl,_,_,rfl,rfl,_,rfl,_,rfl,rfl,_,rfl,?_⟩;refine bj (fun h3=>?_) (fun h3=>?_)
  ·have e:p.1=x:=V.str.inj (Gu h3);rw[F8 e]at hat;refine⟨_,rfl,q q1 _ (aw.refl _) (by rw[hat];exact h2)⟩
  ·have e:¬p.1=x:=fun z=>h3 (by rw[z,Gp rfl]);rw[F6 e]at hat;exact⟨_,_,rfl,rfl,hat⟩
 ·rintro σ H2 ⟨o2,o3,rfl,rfl,hat⟩;have e:S.drop vs.length=[]:=by rw[List.drop_eq_nil_iff,Gi r];exact F4 _
  rw[e,pj]at hat;refine⟨aP rfl,fun l hl=>q l _ (aw.upd hl) ?_⟩;rw[hat];exact SqT.of af
def nF(K:Frag):Sp:=fun vs H Q _=>∃(x y:Addr)(t b u c:Int),vs=[.ref x,.ref y]/\SqT K H x [.int t,.int b]/\SqT K H y [.int u,.int c]/\(0<b/\0<c)/\(Bd 2000 t/\Bd 2000 b/\Bd 2000 u/\Bd 2000 c)/\Q (.bl (decide (t*c<u*b))) H
variable(i7:Df P w K mg base 1 "_law_less" ["_law_one","_law_other"] (nF K))
theorem uL:aD ["_law_one","_law_other"] ["_law_one","_law_other"] (aq (top 71)):=by trivial
include B in
theorem u4(T:Tx K mg "_law_less" (top 71) ["_law_one","_law_other"]):Df P w K mg base 1 "_law_less" ["_law_one","_law_other"] (nF K):=by refine T.df uL (by rintro _ _ _ _ ⟨x,y,t,b,u,c,rfl,hx,hy,⟨hb,hc⟩,⟨t1,t2,t3,t4⟩,q⟩;rfl) ?_;rintro f _ A _ s H _ Q E hr ⟨x,y,t,b,u,c,rfl,hx,hy,⟨hb,hc⟩,⟨t1,t2,t3,t4⟩,q⟩;refine⟨_,(ao (aH (bJ kC (au cH (aC aF (pv 0) ae (fun _ _=>rfl)) (aC aF (pv 1) ae (fun _ _=>rfl))) (au cH (aC aF (pv 1) ae (fun _ _=>rfl)) (aC aF (pv 0) ae (fun _ _=>rfl))) (aI _)))),?_⟩;have B20:∀{z:Int},Bd 2000 z->Bd 20000 z:=fun h=>h.mono (by decide);have hbc:0<b*c:=HJ hb hc;have bdb:Bd 4000 (b*c):=t2.mul t4;refine⟨_,rfl,x,_,_,_,rfl,rfl,hx,(av (j:=0) rfl),_,rfl,y,_,_,_,rfl,rfl,hy,(av (j:=1) rfl),_,_,rfl,rfl,⟨B20 t1,B20 t4⟩,_,rfl,y,_,_,_,rfl,rfl,hy,(av (j:=0) rfl),_,rfl,x,_,_,_,rfl,rfl,hx,(av (j:=1) rfl),_,_,rfl,rfl,⟨B20 t3,B20 t2⟩,_,_,rfl,rfl,?_⟩;exact q
def ko(K:Frag):Sp:=fun vs H Q _=>∃(a:Addr)(R:iM)(rs:List (List Key)),vs=[.ref a]/\StrT K H a R/\R.length<=100/\(∀p∈R,∀r∈p.2,r∈rs)/\rs.length<=59/\(∀r∈rs,fE r)/\(rs.map bh).Nodup/\∀(b:Addr)(T:Col)(H':Hp),aw H H'->mF (R.map (·.2)) T->eO K H' b T->Q (.ref b) H'
variable(gB:Df P w K mg base 2 "burdens_on" ["strips"] (ko K))
theorem qP:aD ["strips"] ["strips"] (aq (top 10)):=by trivial
include B gC in
theorem rg(T:Tx K mg "burdens_on" (top 10) ["strips"]):Df P w K mg base 2 "burdens_on" ["strips"] (ko K):=by
 refine T.df qP (by rintro _ _ _ _ ⟨a,R,rs,rfl,hT,hz,hsub,hrs,hib,nd,q⟩;rfl) ?_;rintro f _ A _ s H _ Q E hr ⟨a,R,rs,rfl,hT,hz,hsub,hrs,hib,nd,q⟩;refine⟨_,(ao (aH (aE gC hr (aa (bZ ["strip"] [] (gg _ []) rfl (by rfl) rfl (by trivial) (by trivial) (aW (by rfl)) (cR (by rfl)) mN mN (b6 (by decide)) (iq (pv 0)) (fun _ _ _ _=>aR (i:=0) (show(["strip"]:List Str).Nodup by trivial) rfl (Or.inl rfl) (Or.inr rfl)) (fun _ _ _ _=>cC) (fun _ _ _ _=>(aC (fO (K:=K) rfl) (pv 0) ae (fun _ _=>rfl)))) ah)))),?_⟩;obtain⟨vs,ha,pr⟩:=hT;have lv:vs.length=R.length:=Gi pr;refine⟨_,rfl,a,rfl,⟨_,ha⟩,fun A1 hA1=>?_⟩;refine xW (K:=K) (a:=a) (xs:=vs) (fun i acc H2=>H2=upd H A1 (.lst acc)/\Paired (yX K H) acc ((R.take i).map (·.2))) ⟨rfl,.nil⟩ (fun i acc H2 _ ⟨e,_⟩=>by rw[e];exact(aw.upd hA1).tup ha) ?_ ?_
 ·rintro i y acc H2 hi ⟨rfl,pc⟩;refine fo ?_;intro kq1 kr1;obtain⟨p,hp,r1,b,rfl,h1,hb⟩:=aX pr hi;refine⟨_,rfl,r1,_,_,_,rfl,rfl,(aw.upd hA1).tup h1,(av (j:=1) rfl),af,aN ?_,by rw[bq],?_⟩
  ·rw[Gi pc,FY,G0];omega
  ·rw[GI,hp,GX,Gk];exact Paired.app pc (.cons ⟨b,rfl,hb⟩ .nil)
 ·rintro acc H2 ⟨rfl,pc⟩;rw[lv,GK]at pc;have s1:=aw.upd (o:=.lst acc) hA1;refine⟨A1,acc,_,rs,rfl,SqL.of af,Paired.imp (fun _ _ z=>yX.tk s1.tk z) pc,fun c hc r hr=>?_,hrs,hib,nd,fun b T H' s' hB hT'=>q b T H' (s1.trans s') hB hT'⟩;obtain⟨p,hp,rfl⟩:=Ge.mp hc;exact hsub p hp r hr
def o8(K:Frag):Sp:=fun vs H Q _=>∃(l:Addr)(xs:List V)(gs:List Nat)(c:Nat),vs=[.ref l,.int c]/\(SqL K H l xs\/SqT K H l xs)/\Paired (HdE K H) xs gs/\c<=64/\Q (cS xs gs c) H
variable(jZ:Df P w K mg base 2 "plot_at" ["plots","cell"] (o8 K))
theorem pB:aD ["plots","cell","plot"] ["plots","cell"] (aq (top 12)):=by trivial
include B xV in
theorem wx(T:Tx K mg "plot_at" (top 12) ["plots","cell"]):Df P w K mg base 2 "plot_at" ["plots","cell"] (o8 K):=by
 refine T.df pB (by rintro _ _ _ _ ⟨l,xs,gs,c,rfl,hl,pr,hc,q⟩;rfl) ?_;rintro f _ A _ s H _ Q E hr ⟨l,xs,gs,c,rfl,hl,pr,hc,q⟩;refine aQ ?_;intro kX;refine ai 1 (ao (aH dA)) ?_;intro kR1 pR1;refine⟨_,(aj (dz GH rfl (zN (pv 0)) (aR (i:=2) pB.nd rfl (by trivial)) (ao (aU (dP (aE xV hr (aa (aC aF (pv 2) ae (fun _ _=>rfl)) (aa (pv 1) ah)))) (ao (aH (pv 2))) aK))) pR1),?_⟩;rcases hl with hl|hl
 ·refine .inl ⟨_,rfl,l,rfl,⟨_,hl⟩,fZ (K:=K) (a:=l) (xs:=xs) (fun i σ H2=>∃o2:Option V,σ=[some (.ref l),some (.int c),o2]/\H2=H/\cS xs gs c=cS (xs.drop i) (gs.drop i) c) ⟨none,rfl,rfl,rfl⟩ (fun i σ H2 _ hPz=>hPz.elim fun _ hPz=>(fun e=>by rw[e];exact hl) (hPz.2.1)) ?_ ?_⟩
  ·rintro i y σ H2 hi ⟨o2,rfl,rfl,e⟩;refine fm ?_;intro kD1;obtain⟨g,hg,r,rest,rfl,h1⟩:=aX pr hi;rw[iZ hi hg]at e;refine⟨_,rfl,r,_,_,_,rfl,rfl,h1,(av (j:=0) rfl),_,rfl,g,c,rfl,_,rfl,?_⟩;rw[show(decide (0<=((c:Nat):Int))&&g.testBit ((c:Nat):Int).toNat)=g.testBit c by simp];refine bj (fun h2=>?_) (fun h2=>?_)
   ·rw[F8 h2]at e;refine⟨_,rfl,?_⟩;rw[e]at q;exact q
   ·rw[F6 h2]at e;exact⟨_,rfl,rfl,e⟩
  ·rintro σ H2 ⟨o2,rfl,rfl,e⟩;rw[List.drop_length]at e;have e2:cS xs gs c=.non:=(by rw[e];rfl);rw[e2]at q;exact q
 ·refine .inr ⟨_,rfl,l,rfl,⟨_,hl⟩,i0 (K:=K) (a:=l) (xs:=xs) (fun i σ H2=>∃o2:Option V,σ=[some (.ref l),some (.int c),o2]/\H2=H/\cS xs gs c=cS (xs.drop i) (gs.drop i) c) ⟨none,rfl,rfl,rfl⟩ (fun i σ H2 _ hPz=>hPz.elim fun _ hPz=>(fun e=>by rw[e];exact hl) (hPz.2.1)) ?_ ?_⟩
  ·rintro i y σ H2 hi ⟨o2,rfl,rfl,e⟩;refine fm ?_;intro kD2;obtain⟨g,hg,r,rest,rfl,h1⟩:=aX pr hi;rw[iZ hi hg]at e;refine⟨_,rfl,r,_,_,_,rfl,rfl,h1,(av (j:=0) rfl),_,rfl,g,c,rfl,_,rfl,?_⟩;rw[show(decide (0<=((c:Nat):Int))&&g.testBit ((c:Nat):Int).toNat)=g.testBit c by simp];refine bj (fun h2=>?_) (fun h2=>?_)
   ·rw[F8 h2]at e;refine⟨_,rfl,?_⟩;rw[e]at q;exact q
   ·rw[F6 h2]at e;exact⟨_,rfl,rfl,e⟩
  ·rintro σ H2 ⟨o2,rfl,rfl,e⟩;rw[List.drop_length]at e;have e2:cS xs gs c=.non:=(by rw[e];rfl);rw[e2]at q;exact q
def gQ(K:Frag):Sp:=fun vs H Q _=>∃(t b:Int),vs=[.int t,.int b]/\b≠0/\Bd 8000 b/\∀l p q,CG t b p q->H l=none->Q (.ref l) (upd H l (.tup [.int p,.int q]))
variable(bE:Df P w K mg base 2 "in_lowest_terms" ["top","bottom"] (gQ K))
theorem ff:aD ["top","bottom","divisor"] ["top","bottom"] (aq (top 19)):=by trivial
include B d8 in
theorem kT(T:Tx K mg "in_lowest_terms" (top 19) ["top","bottom"]):Df P w K mg base 2 "in_lowest_terms" ["top","bottom"] (gQ K):=by
 refine T.df ff (by rintro _ _ _ _ ⟨t,b,rfl,hb,bd,q⟩;rfl) ?_;rintro f _ A _ s H _ Q E hr ⟨t,b,rfl,hb,bd,q⟩;refine aQ ?_;intro kX;refine ai 2 (ao (aH (bp (aa (au rZ (pv 0) (pv 2)) (aa (au rZ (pv 1) (pv 2)) ah))))) ?_;intro kR2 pR2;refine ai 1 (aZ (aU (aJ kC (pv 1) ae (aI _)) (ao (aA (i:=2) ff.nd rfl (by trivial) (EU C7 (pv 2)))) aK) pR2) ?_;intro kR1 pR1;refine⟨_,(aj (aA (i:=2) ff.nd rfl (by trivial) (aE d8 hr (aa (pv 0) (aa (pv 1) ah)))) pR1),?_⟩;have hm0:(if b<0 then-(Int.gcd t b:Int)else(Int.gcd t b:Int))≠0:=by have:=Int.gcd_pos_of_ne_zero_right t hb;split<;>omega
 have bdm:Bd 8999 (if b<0 then-(Int.gcd t b:Int)else(Int.gcd t b:Int)):=by
  have:=(Bd.gcd (t:=t) bd hb).mono (n:=8999) (by decide);split
  ·exact this.neg
  ·exact this
 refine⟨_,rfl,_,rfl,t,b,rfl,?_⟩;refine⟨fun σ' H'=>σ'=[some (.int t),some (.int b),some (.int (if b<0 then-(Int.gcd t b:Int)else(Int.gcd t b:Int)))]/\H'=H,?_,?_⟩
 ·refine⟨_,rfl,_,_,rfl,rfl,_,rfl,?_⟩;refine bj (fun h1=>?_) (fun h1=>?_)
  ·have h1':b<0:=Gu h1;rw[F8 h1'];exact⟨_,rfl,_,rfl,rfl,rfl⟩
  ·have h1':¬b<0:=fun z=>h1 (Gp z);rw[F6 h1'];exact⟨rfl,rfl⟩
 ·rintro σ' H' ⟨rfl,rfl⟩;exact⟨_,rfl,_,rfl,_,_,rfl,rfl,⟨hm0,bdm⟩,_,rfl,_,rfl,_,_,rfl,rfl,⟨hm0,bdm⟩,aP rfl,fun l hl=>q l _ _ (yB hb rfl) hl⟩
def iB(K:Frag)(mg:Str->Option Value):Sp:=fun vs H Q _=>∃(a C dx sg pa:Addr)(num since:Int)(G:gZ)(tr:V),vs=[.ref a,.int num,.int since,.ref sg,.int G.c,.str G.gv,.str G.tk,.ref pa,.int G.gr,tr]/\H a=some (.ins C dx [])/\vT K mg C/\Q .non (upd H a (.ins C dx (om num since sg pa G tr)))
variable(di:DfT P w K mg base CX0 2 aL "__init__" ["self","number","since","signed","at","giver","taker","part","ground","trust"] (iB K mg) [.none])
theorem mM:aD ["self","number","since","signed","at","giver","taker","part","ground","trust"] ["self","number","since","signed","at","giver","taker","part","ground","trust"] (aq eV):=by trivial
include B d9 cW bI d5 in
theorem m3(T:TxM K aL "__init__" "Give.__init__" eV ["self","number","since","signed","at","giver","taker","part","ground","trust"] [.none]):DfT P w K mg base CX0 2 aL "__init__" ["self","number","since","signed","at","giver","taker","part","ground","trust"] (iB K mg) [.none]:=by refine T.df mM (by rintro _ _ _ _ ⟨a,C,dx,sg,pa,num,since,G,tr,rfl,ha,D,q⟩;rfl) ?_;rintro f _ A _ s H _ Q E hr ⟨a,C,dx,sg,pa,num,since,G,tr,rfl,ha,D,q⟩;refine aQ ?_;intro kX;refine ai 6 (ao (iQ (pv 0) (pv 9) rfl)) ?_;intro kR6 pR6;refine ai 5 (aj (iQ (pv 0) (pv 8) rfl) pR6) ?_;intro kR5 pR5;refine ai 4 (aj (iQ (pv 0) (pv 7) rfl) pR5) ?_;intro kR4 pR4;refine ai 3 (aj (iQ (pv 0) (pv 6) rfl) pR4) ?_;intro kR3 pR3;refine ai 2 (aj (iQ (pv 0) (pv 5) rfl) pR3) ?_;intro kR2 pR2;refine ai 1 (aj (iQ (pv 0) (pv 4) rfl) pR2) ?_;intro kR1 pR1;refine⟨_,(aj (cZ (zT d5 d9 hr (aa (pv 0) (aa (pv 1) (aa (pv 2) (aa (pv 3) ah)))))) pR1),?_⟩;refine⟨_,rfl,_,rfl,_,rfl,_,rfl,a,C,dx,sg,num,since,rfl,ha,D.pap,?_⟩;refine⟨_,rfl,_,rfl,a,C,dx,_,rfl,af,D.pap.cls,D.at',(by show 3<1000;decide),?_⟩;refine⟨_,rfl,_,rfl,a,C,dx,_,rfl,af,D.pap.cls,D.gv,(by show 4<1000;decide),?_⟩;refine⟨_,rfl,_,rfl,a,C,dx,_,rfl,af,D.pap.cls,D.tk,(by show 5<1000;decide),?_⟩;refine⟨_,rfl,_,rfl,a,C,dx,_,rfl,af,D.pap.cls,D.pt,(by show 6<1000;decide),?_⟩;refine⟨_,rfl,_,rfl,a,C,dx,_,rfl,af,D.pap.cls,D.gr,(by show 7<1000;decide),?_⟩;refine⟨_,rfl,_,rfl,a,C,dx,_,rfl,af,D.pap.cls,D.tr,(by show 8<1000;decide),?_⟩;simp only[bq];exact q
def gM(K:Frag):Sp:=fun vs H Q _=>∃(c:Int)(w h:Nat),vs=[.int c,.int w,.int h]/\(0<w/\w<=8/\0<h/\h<=8)/\∀(v:Nat) H',v<2^(w*h)->aw H H'->Q (.int v) H'
variable(dM:Df P w K mg base 2 "_law_make_ground" ["_law_cell","_law_wide","_law_high"] (gM K))
theorem aV:aD ["_law_cell","_law_wide","_law_high","_law_many","_law_rest","_law_way","_law_found"] ["_law_cell","_law_wide","_law_high"] (aq (top 44)):=by trivial
include B c8 ic in
theorem kP(T:Tx K mg "_law_make_ground" (top 44) ["_law_cell","_law_wide","_law_high"]):Df P w K mg base 2 "_law_make_ground" ["_law_cell","_law_wide","_law_high"] (gM K):=by
 refine T.df aV (by rintro _ _ _ _ ⟨c,w,h,rfl,⟨hw,hw8,hh,hh8⟩,q⟩;rfl) ?_;rintro f _ A _ s H _ Q E hr ⟨c,w,h,rfl,⟨hw,hw8,hh,hh8⟩,q⟩;refine aQ ?_;intro kX;refine ai 9 (ao (aH (au bf (pv 6) (au fJ ae (pv 3))))) ?_;intro kR9 pR9;refine ai 8 (aZ (aU (aJ ck (pv 5) ae (aI _)) (ao (aA (i:=6) aV.nd rfl (by trivial) (aC bO (cM (aa ae (aa (au fJ ae (au bf (pv 4) (pv 3))) (aa (au dB (au fJ ae (pv 3)) ae) ah)))) (au bf (au bV (pv 4) (pv 3)) ae) (fun _ _=>rfl)))) aK) pR9) ?_;intro kR8 pR8;refine ai 7 (aZ (aU (aJ ck (pv 5) ae (aI _)) (ao (aA (i:=6) aV.nd rfl (by trivial) (aE ic hr (aa (pv 4) (aa (pv 1) (aa (pv 2) ah)))))) aK) pR8) ?_;intro kR7 pR7;refine ai 6 (aZ (aU (aJ ck (pv 5) ae (aI _)) (ao (aA (i:=6) aV.nd rfl (by trivial) (au dB (au dB (au fJ ae (pv 3)) ae) (au fJ ae (au bf (pv 4) (pv 3)))))) aK) pR7) ?_;intro kR6 pR6;refine ai 5 (aZ (aU (aJ ck (pv 5) ae (aI _)) (ao (aA (i:=6) aV.nd rfl (by trivial) (au Ab (pv 6) (aE c8 hr (aa (au aY (au bV (pv 4) ae) ae) ah))))) aK) pR6) ?_;intro kR5 pR5;refine ai 4 (aZ (aU (aJ ck (pv 5) ae (aI _)) (ao (aA (i:=6) aV.nd rfl (by trivial) (au CN (pv 6) (aE c8 hr (aa (au aY (au bV (pv 4) ae) ae) ah))))) aK) pR5) ?_;intro kR4 pR4;refine ai 3 (aj (aA (i:=6) aV.nd rfl (by trivial) (aE c8 hr (aa (pv 4) ah))) pR4) ?_;intro kR3 pR3;refine ai 2 (aj (aA (i:=5) aV.nd rfl (by trivial) (au bf (pv 0) ae)) pR3) ?_;intro kR2 pR2;refine ai 1 (aj (aA (i:=4) aV.nd rfl (by trivial) (au bV (pv 0) ae)) pR2) ?_;intro kR1 pR1;refine⟨_,(aj (aA (i:=3) aV.nd rfl (by trivial) (au bX (pv 1) (pv 2))) pR1),?_⟩;have hwh:w*h<=64:=Nat.mul_le_mul hw8 hh8;have hwp:0<w*h:=Nat.mul_pos hw hh;have e1:((w:Int)*(h:Int))=((w*h:Nat):Int):=by simp
 have fin:∀(v:Int) H',aw H H'->Q (.int (v % (1*2^(((w*h:Nat):Int)).toNat))) H':=fun v H' s=>by obtain⟨z,ez,hz⟩:=BV v (w*h);rw[ez];exact q z H' hz s
 refine⟨_,rfl,_,rfl,_,_,rfl,rfl,.inl ⟨by omega,by omega⟩,_,rfl,_,_,rfl,rfl,⟨by decide,by decide⟩,_,rfl,_,_,rfl,rfl,(by show(0:Int)<_;decide),?_⟩;simp only[e1];refine⟨_,rfl,_,rfl,fun v=>?_⟩;have s0:=aw.refl H;refine⟨fun σ' H'=>∃v:Int,σ'=[some (.int c),some (.int w),some (.int h),some (.int ((w*h:Nat):Int)),some (.int (c / 8)),some (.int (c % 8)),some (.int v)]/\aw H H',?_,?_⟩
 ·refine eJ ?_;intro kD1;refine⟨_,rfl,rfl,_,rfl,?_⟩;refine bj (fun h1=>?_) (fun h1=>?_)
  ·refine⟨_,rfl,_,rfl,_,_,rfl,rfl,⟨by decide,by decide⟩,_,_,rfl,rfl,_,rfl,fun v2=>⟨_,_,rfl,rfl,?_⟩⟩;exact⟨_,rfl,s0⟩
  ·exact⟨_,rfl,s0⟩
 rintro σ' H1 ⟨v,rfl,s1⟩;refine⟨fun σ' H'=>∃v:Int,σ'=[some (.int c),some (.int w),some (.int h),some (.int ((w*h:Nat):Int)),some (.int (c / 8)),some (.int (c % 8)),some (.int v)]/\aw H H',?_,?_⟩
 ·refine eJ ?_;intro kD2;refine⟨_,rfl,rfl,_,rfl,?_⟩;refine bj (fun h1=>?_) (fun h1=>?_)
  ·refine⟨_,rfl,_,rfl,_,_,rfl,rfl,⟨by decide,by decide⟩,_,_,rfl,rfl,_,rfl,fun v2=>⟨_,_,rfl,rfl,?_⟩⟩;exact⟨_,rfl,s1⟩
  ·exact⟨_,rfl,s1⟩
 rintro σ' H2 ⟨v,rfl,s2⟩;refine⟨fun σ' H'=>∃v:Int,σ'=[some (.int c),some (.int w),some (.int h),some (.int ((w*h:Nat):Int)),some (.int (c / 8)),some (.int (c % 8)),some (.int v)]/\aw H H',?_,?_⟩
 ·refine eJ ?_;intro kD3;refine⟨_,rfl,rfl,_,rfl,?_⟩;refine bj (fun h1=>?_) (fun h1=>?_)
  ·refine⟨_,rfl,_,_,rfl,rfl,⟨by omega,by omega,by decide⟩,_,_,rfl,rfl,_,rfl,_,rfl,_,_,rfl,rfl,(by omega),_,_,rfl,rfl,⟨GP _ (by omega),by have:=GV (c / 8) (show(0:Int)<((w*h:Nat):Int) by omega);omega,by decide⟩,_,_,rfl,rfl,?_⟩;exact⟨_,rfl,s2⟩
  ·exact⟨_,rfl,s2⟩
 rintro σ' H3 ⟨v,rfl,s3⟩;refine⟨fun σ' H'=>∃v:Int,σ'=[some (.int c),some (.int w),some (.int h),some (.int ((w*h:Nat):Int)),some (.int (c / 8)),some (.int (c % 8)),some (.int v)]/\aw H H',?_,?_⟩
 ·refine eJ ?_;intro kD4;refine⟨_,rfl,rfl,_,rfl,?_⟩;refine bj (fun h1=>?_) (fun h1=>?_)
  ·refine⟨_,rfl,_,rfl,_,rfl,_,w,h,rfl,⟨hw,hw8,hh,hh8⟩,fun v4 H' s'=>?_⟩;exact⟨_,rfl,s3.trans s'⟩
  ·exact⟨_,rfl,s3⟩
 rintro σ' H4 ⟨v,rfl,s4⟩;refine⟨fun σ' H'=>∃v:Int,σ'=[some (.int c),some (.int w),some (.int h),some (.int ((w*h:Nat):Int)),some (.int (c / 8)),some (.int (c % 8)),some (.int v)]/\aw H H',?_,?_⟩
 ·refine eJ ?_;intro kD5;refine⟨_,rfl,rfl,_,rfl,?_⟩;refine bj (fun h1=>?_) (fun h1=>?_)
  ·refine⟨_,rfl,_,rfl,_,_,rfl,rfl,(by omega),_,_,rfl,rfl,⟨GP _ (by omega),by have:=GV (c / 8) (show(0:Int)<((w*h:Nat):Int) by omega);omega,by decide⟩,_,rfl,_,_,rfl,rfl,⟨by omega,by omega,by decide⟩,_,_,rfl,rfl,aP rfl,fun l hl=>?_⟩;have y3:∃v5:Int,atI [V.int 0,.int (1*2^(c / 8 % ((w*h:Nat):Int)).toNat),.int (1*2^(((w*h:Nat):Int)).toNat-1)] (c / 8 / ((w*h:Nat):Int) % 3)=some (.int v5):=by
    have y4:c / 8 / ((w*h:Nat):Int) % 3=0\/c / 8 / ((w*h:Nat):Int) % 3=1\/c / 8 / ((w*h:Nat):Int) % 3=2:=(by omega);rcases y4 with y|y|y<;>rw[y]<;>exact⟨_,rfl⟩
   obtain⟨v5,y3⟩:=y3;refine⟨_,rfl,_,rfl,_,_,rfl,rfl,⟨by omega,by omega⟩,_,_,rfl,rfl,(by show(0:Int)<_;decide),l,_,_,_,rfl,rfl,SqL.of af,y3,?_⟩;exact⟨_,rfl,s4.trans (aw.upd hl)⟩
  ·exact⟨_,rfl,s4⟩
 rintro σ' H5 ⟨v,rfl,s5⟩;exact⟨_,rfl,_,rfl,_,_,rfl,rfl,⟨by omega,by omega,by decide⟩,_,_,rfl,rfl,uT _,fin _ _ s5⟩
def lI(K:Frag):Sp:=fun vs H Q _=>∃(w h c k:Nat),vs=[.int w,.int h,.int c,.int k]/\(0<w/\w<=8/\h<=8)/\c<2^(w*h)/\c.testBit k=true/\∀p H',cU w h c k p->aw H H'->Q (.int (p:Nat)) H'
variable(ie:Df P w K mg base 2 "_law_piece" ["_law_wide","_law_high","_law_ground","_law_cell"] (lI K))
theorem dX:aD ["_law_wide","_law_high","_law_ground","_law_cell","_law_found","_law_todo","_law_here","_law_near"] ["_law_wide","_law_high","_law_ground","_law_cell"] (aq (top 47)):=by trivial
include B gy bo in
theorem tO(T:Tx K mg "_law_piece" (top 47) ["_law_wide","_law_high","_law_ground","_law_cell"]):Df P w K mg base 2 "_law_piece" ["_law_wide","_law_high","_law_ground","_law_cell"] (lI K):=by
 refine T.df dX (by rintro _ _ _ _ ⟨w,h,c,k,rfl,⟨hw,hw8,hh8⟩,hc,hk,q⟩;rfl) ?_;rintro f _ A _ s H _ Q E hr ⟨w,h,c,k,rfl,⟨hw,hw8,hh8⟩,hc,hk,q⟩;have hu:=hr.units;refine aQ ?_;intro kX;refine ai 3 (ao (aH (pv 4))) ?_;intro kR3 pR3;refine bR 2 1 (ao (dz GH rfl (dE (aE gy hr (aa (pv 0) (aa (pv 1) (aa (pv 6) ah))))) (aR (i:=7) dX.nd rfl (by trivial)) (ao (aU ((ip (dP (aE bo hr (aa (pv 2) (aa (pv 7) ah)))) (hV (tD (dP (aE bo hr (aa (pv 4) (aa (pv 7) ah))))))).pt) (aj (aA (i:=4) dX.nd rfl (by trivial) (au aY (pv 4) (au fJ ae (pv 7)))) (ao (cZ (kA GL G2 G1 dy (pv 5) (aa (pv 7) ah))))) aK)))) ?_;intro kS2x1 pS2x1;refine bR 2 0 (aj (aA (i:=6) dX.nd rfl (by trivial) (zW GL PySem.F.slot_list_pop PySem.F.type_list_pop DF (pv 5))) pS2x1) ?_;intro kS2x0 pS2x0;refine ai 2 (aj (pK GH (aJ (wt hu) (pv 5) (cM ah) (aI _)) pS2x0) pR3) ?_;intro kR2 pR2;refine ai 1 (aj (aA (i:=5) dX.nd rfl (by trivial) (cM (aa (pv 3) ah))) pR2) ?_;intro kR1 pR1;refine⟨_,(aj (aA (i:=4) dX.nd rfl (by trivial) (au fJ ae (pv 3))) pR1),?_⟩;have hwh:w*h<=64:=Nat.mul_le_mul hw8 hh8;have p64:2^(w*h)<=2^64:=GY (by decide) hwh;have hc64:c<2^64:=F5 hc p64;have hu:=hr.units;have hkn:=gh hc hk;have e0:(1:Int)*2^((k:Int)).toNat=((gR 0 [k]:Nat):Int):=by rw[jA];show((2^k:Nat):Int)=((0||| 2^k:Nat):Int);rw[Nat.zero_or]
 refine⟨_,rfl,_,_,rfl,rfl,⟨by omega,by omega,by decide⟩,?_⟩;refine⟨_,rfl,aP rfl,fun l hl=>?_⟩;have s0:=aw.upd (o:=.lst (NV [k])) hl;refine⟨fun m σ H2=>∃(G T:List Nat)(o6 o7:Option V),σ=[some (.int w),some (.int h),some (.int c),some (.int k),some (.int (gR 0 G:Nat)),some (.ref l),o6,o7]/\m=2*(64-G.length)+T.length/\m<=128/\SX l (upd H l (.lst (NV [k]))) H2/\H2 l=some (.lst (NV T))/\qH w h c k G T,⟨127,[k],[k],none,none,(by rw[<-e0];rfl),rfl,by decide,SX.refl _ _,af,qH.start hk⟩,?_⟩;rintro m σ H2 ⟨G,T,o6,o7,rfl,rfl,hm,s2,hl2,D⟩;have hG:=D.len hc64;refine⟨_,rfl,aP rfl,fun e he=>?_⟩;have s3:=aw.upd (o:=.lst []) he;have hl3:=s3 _ _ hl2;refine⟨_,_,IsD.lst (SqL.of hl3) (nh T),IsD.lst (SqL.of af) (nh []),vj _,rfl,by decide,_,rfl,?_⟩;generalize hH3:(upd H2 e (.lst []))=H3 at s3 hl3 ⊢;rcases List.eq_nil_or_concat T with rfl|⟨T,x,rfl⟩
 ·refine fq ?_;exact⟨_,rfl,q _ H3 D.done ((SX.same hl s0 s2).trans s3)⟩
 ·have ef:PyData.eqv (.list ((T++[x]).map fun k:Nat=>PyData.int (k:Int))) (.list (([]:List Nat).map fun k:Nat=>PyData.int (k:Int)))=false:=by
   cases T with
   |nil=>rfl
   |cons y t=>rfl
  rw[show T.concat x=T++[x] by simp]at*;rw[ef];refine jh ⟨_,fun _ _ z=>z,?_⟩;rw[Gd,G7]at hm;have hxc:=(D.rc x (D.sb x (by simp))).in;have hxn:=gh hc hxc;refine⟨_,rfl,.inl ⟨rfl,_,SqL.of hl3⟩,l,_,.int (x:Int),rfl,rfl,hl3,?_,?_⟩
  ·rw[jb,Gd];simp
  rw[show(NV (T++[x])).dropLast=NV T by rw[jb];exact List.dropLast_concat];refine⟨_,rfl,_,rfl,_,rfl,w,h,x,rfl,⟨by omega,by omega⟩,fun l2 hn2=>⟨l2,rfl,⟨_,SqL.of af⟩,?_⟩⟩;rw[Ah w h x];have hl4:(upd H3 l (.lst (NV T))) l=some (.lst (NV T)):=af;have n2l:l2≠l:=fun z=>by rw[z,af]at hn2;cases hn2
  refine fZ (K:=K) (a:=l2) (xs:=((ei w h x).map fun j:Nat=>(j:Int)).map V.int)
   (fun j σ H4=>∃(M:List Nat)(o7:Option V),σ=[some (.int w),some (.int h),some (.int c),some (.int k),some (.int (gR 0 (G++M):Nat)),some (.ref l),some (.int x),o7]/\SX l (upd (upd H3 l (.lst (NV T))) l2 (.lst (((ei w h x).map fun j:Nat=>(j:Int)).map V.int))) H4/\H4 l=some (.lst (NV (T++M)))/\M.length<=j/\rD w h c k x (G++M) (T++M) ((ei w h x).take j))
   ⟨[],o7,(by rw[GF];rfl),SX.refl _ _,(by rw[az (Hg n2l),GF];exact hl4),F4 _,by rw[GF,GF];exact D.mid⟩
   (fun j σ H4 _ ⟨_,_,_,s4,_⟩=>SqL.of (s4 _ _ n2l af)) ?_ ?_
  ·rintro j y σ H4 hj ⟨M,o7',rfl,s4,hl5,hMl,DM⟩;refine fm ?_;intro kD1;obtain⟨z,hz,rfl⟩:=AB hj;have hzm:z∈ei w h x:=Gb hz;have hzn:=BS hw hxn hzm;have hjl:j<(ei w h x).length:=(Gr.mp hz).1;have h4:=Ag w h x;have et:(ei w h x).take (j+1)=(ei w h x).take j++[z]:=(by rw[GI,hz];rfl);refine⟨_,rfl,_,rfl,c,z,rfl,by omega,_,rfl,?_⟩;refine bj (fun hcz=>?_) (fun hcz=>?_)
   ·refine⟨_,rfl,_,rfl,_,z,rfl,by omega,_,rfl,?_⟩;cases hf:(gR 0 (G++M)).testBit z with
    |true=>refine fq ⟨M,_,rfl,s4,hl5,by omega,?_⟩;rw[et];exact DM.skip fun _=>mR.mp hf
    |false=>
     have hnG:¬z∈G++M:=fun q'=>by rw[mR.mpr q']at hf;cases hf
     refine jh ?_;refine⟨_,rfl,_,rfl,_,_,rfl,rfl,⟨by omega,by omega,by decide⟩,_,_,rfl,rfl,?_⟩;have ea:((gR 0 (G++M):Nat):Int)+1*2^((z:Int)).toNat=((gR 0 (G++(M++[z])):Nat):Int):=by
      rw[jA,<-List.append_assoc];have e3:gR 0 (G++M++[z])=gR 0 (G++M)||| 2^z:=by unfold gR;rw[List.foldl_append];rfl
      rw[e3,Dy (and_zero fun j hj=>by
       rw[xt,decide_eq_false_iff_not];intro e4;subst e4;rw[hf]at hj
       cases hj)]
      omega
     refine⟨_,rfl,.inl ⟨rfl,_,SqL.of hl5⟩,_,rfl,l,_,_,rfl,rfl,hl5,?_,?_⟩
     ·refine aN ?_;rw[FY,Gd];omega
     refine⟨M++[z],some (.int z),?_,s4.trans SX.set,?_,?_,?_⟩
     ·simp only[ea];rfl
     ·rw[af,<-List.append_assoc,jb (T++M)];rfl
     ·rw[Gd,G7];omega
     ·rw[et,<-List.append_assoc,<-List.append_assoc];exact DM.push hcz hzm hnG
   ·refine⟨M,_,rfl,s4,hl5,by omega,?_⟩;rw[et];exact DM.skip fun q'=>absurd q' hcz
  ·rintro σ H4 ⟨M,o7',rfl,s4,hl5,hMl,DM⟩;rw[FY,FY,GK]at DM;have DI:=DM.done;have hG2:=DI.len hc64;rw[Gd]at hG2;refine⟨_,?_,G++M,T++M,some (.int x),o7',rfl,rfl,?_,?_,hl5,DI⟩
   ·rw[Gd,Gd,Gd,G7];omega
   ·rw[Gd,Gd];omega
   ·exact s2.trans ((SX.of s3).trans (SX.set.trans ((SX.of (aw.upd hn2)).trans s4)))
def gK(K:Frag):Sp:=fun vs H Q _=>∃(z w:Int),vs=[.int z,.int w]/\∀l S H',aw H H'->ShF K H' l S->GS ((List.range 6).map (c5 w)) S->Q (.ref l) H'
variable(dJ:Df P w K mg base 2 "_law_make_shares" ["_law_cell","_law_way"] (gK K))
theorem bK:aD ["_law_cell","_law_way","_law_many","_law_first","_law_weights","_law_scale","_law_total"] ["_law_cell","_law_way"] (aq (top 52)):=by trivial
include B aB bM cy vM in
theorem kN(T:Tx K mg "_law_make_shares" (top 52) ["_law_cell","_law_way"]):Df P w K mg base 2 "_law_make_shares" ["_law_cell","_law_way"] (gK K):=by
 refine T.df bK (by rintro _ _ _ _ ⟨z,w,rfl,q⟩;rfl) ?_;rintro f _ A _ s H _ Q E hr ⟨z,w,rfl,q⟩
 refine⟨_,(@aj _ _ _ _ _ (@aA _ _ 2 _ _ _ _ bK.nd rfl (by trivial) (au aY ae (aE aB hr (@aa _ _ _ _ _ (pv 0) (@aa _ _ _ _ _ ae (@aa _ _ _ _ _ ae ah rfl) rfl) rfl))) rfl (by trivial)) (@aj _ _ _ _ _ (@aA _ _ 3 _ _ _ _ bK.nd rfl (by trivial) (aE aB hr (@aa _ _ _ _ _ (pv 0) (@aa _ _ _ _ _ ae (@aa _ _ _ _ _ ae ah rfl) rfl) rfl)) rfl (by trivial)) (@aj _ _ _ _ _ (@aA _ _ 4 _ _ _ _ bK.nd rfl (by trivial) (bZ ["_law_k"] [("_law_cell",0)] (gg _ ["_law_cell"]) rfl (by rfl) rfl (by trivial) (by trivial) (aW (by rfl)) (cR (by rfl)) (mC ⟨rfl,rfl⟩ mN) (mC rfl mN) (b6 (by decide)) (bU (by rfl) B.range (@aa _ _ _ _ _ (pv 2) ah rfl)) (fun _ _ _ _=>aR (i:=0) (show(["_law_k","_law_cell"]:List Str).Nodup by trivial) rfl (Or.inl rfl) (Or.inr rfl)) (fun _ _ _ _=>cC) (fun _ _ _ _=>(au aY ae (aE aB hr (@aa _ _ _ _ _ (pv 1) (@aa _ _ _ _ _ (au aY ae (pv 0)) (@aa _ _ _ _ _ ae ah rfl) rfl) rfl))))) rfl (by trivial))
  (@aj _ _ _ _ _ (@aA _ _ 5 _ _ _ _ bK.nd rfl (by trivial) (@aC _ _ _ _ _ _ _ bO (@cM _ _ _ _ (@aa _ _ _ _ _ ae (@aa _ _ _ _ _ ae (@aa _ _ _ _ _ ae (@aa _ _ _ _ _ (au gc ae ae) (@aa _ _ _ _ _ (au gc ae ae) (@aa _ _ _ _ _ (au dB (au gc ae ae) ae) ah rfl) rfl) rfl) rfl) rfl) rfl)) (aE aB hr (@aa _ _ _ _ _ (pv 0) (@aa _ _ _ _ _ ae (@aa _ _ _ _ _ ae ah rfl) rfl) rfl)) (fun _ _=>rfl)) rfl (by trivial)) (aZ (aU (aJ jG (pv 5) ae (aI _)) (@ao _ _ _ (wm (au dB (pv 5) (aT (sx rfl) (by rfl) vM boot_sum (@aa _ _ _ _ _ (pN Bo (pv 4) (tE ae) tF) ah rfl))) (zO (pv 4) ae set_list))) aK) (@aj _ _ _ _ _ (@aA _ _ 6 _ _ _ _ bK.nd rfl (by trivial) (aT (sx rfl) (by rfl) vM boot_sum (@aa _ _ _ _ _ (pv 4) ah rfl)) rfl (by trivial)) (@ao _ _ _ (@aH _ _ _ _ (bL sv (by rfl) B.tuple boot_tuple (@aa _ _ _ _ _ (aT LT.wY (by rfl) B.sorted (by trivial) (@aa _ _ _ _ _ (bZ ["_law_k"] [("_law_first",3),("_law_way",1),("_law_weights",4),("_law_total",6)] (gg _ ["_law_weights","_law_way","_law_total","_law_first"]) rfl (by rfl) rfl (by trivial) (by trivial) (aW (by rfl)) (cR (by rfl)) (mC ⟨rfl,rfl⟩ (mC ⟨rfl,rfl⟩ (mC ⟨rfl,rfl⟩ (mC ⟨rfl,rfl⟩ mN)))) (mC rfl (mC rfl (mC rfl (mC rfl mN)))) (b6 (by decide)) (bU (by rfl) B.range (@aa _ _ _ _ _ (pv 2) ah rfl)) (fun _ _ _ _=>aR (i:=0) (show(["_law_k","_law_first","_law_way","_law_weights","_law_total"]:List Str).Nodup by trivial) rfl (Or.inl rfl) (Or.inr rfl)) (fun _ _ _ _=>cC) (fun _ _ _ _=>(@bp _ _ _ _ _ (@aa _ _ _ _ _ (aE bM hr (@aa _ _ _ _ _ (au bf (au aY (pv 1) (pv 0)) ae) (@aa _ _ _ _ _ (pv 2) ah rfl) rfl)) (@aa _ _ _ _ _ (aE cy hr (@aa _ _ _ _ _ (@aC _ _ _ _ _ _ _ (mm (K:=K) rfl) (pv 3) (pv 0) (fun _ _=>rfl)) (@aa _ _ _ _ _ (pv 4) ah rfl) rfl)) ah rfl) rfl)))) ah rfl)) ah rfl)))))))))),?_⟩
 refine⟨_,rfl,z,31,4,rfl,by decide,by decide,fun j1 hj1=>?_⟩;refine⟨_,_,rfl,rfl,?_⟩;refine⟨_,rfl,z,32,6,rfl,by decide,by decide,fun j2 hj2=>?_⟩;refine⟨_,rfl,1+(j1:Int),rfl,by omega,by omega,fun A1 hA1=>?_⟩;rw[show(1+(j1:Int)).toNat=j1+1 by omega];have sA:∀o:HO,aw H (upd H A1 o):=fun o=>aw.upd hA1;refine mE (n:=j1+1) (lo:=0) (fun i acc H2=>∃ws:List Int,H2=upd H A1 (.lst acc)/\acc=ws.map V.int/\ws.length=i/\∀x∈ws,1<=x/\x<=9) ⟨[],rfl,rfl,rfl,fun _ z=>nomatch z⟩ ?_ ?_
 ·rintro i acc H2 hi ⟨ws,rfl,rfl,lw,hw⟩;rw[show(0:Int)+(i:Int)=((i:Nat):Int) by omega];refine fo ?_;intro kq1 kr1;refine⟨_,rfl,_,rfl,_,_,rfl,rfl,z,33+i,9,rfl,by decide,by omega,fun j hj=>?_⟩;refine⟨_,_,rfl,rfl,af,?_,ws++[1+(j:Int)],?_,?_,?_,fun x hx=>?_⟩
  ·rw[FY];exact aN (by omega)
  ·rw[bq]
  ·rw[Gk];rfl
  ·rw[Gd,lw];rfl
  ·rcases Gj.mp hx with y|y
   ·exact hw x y
   ·rw[F2.mp y];omega
 rintro acc H2 ⟨ws,rfl,rfl,lw,hw⟩;refine⟨_,_,rfl,rfl,⟨by decide,by decide,by decide⟩,_,_,rfl,rfl,⟨by decide,by decide,by decide⟩,_,_,rfl,rfl,⟨by decide,by decide,by decide⟩,_,_,rfl,rfl,aP rfl,fun l2 hl2=>?_⟩;refine⟨_,rfl,z,40,6,rfl,by decide,by decide,fun j3 hj3=>?_⟩;obtain⟨sc,hsc,scv⟩:∃sc:Int,atI [V.int 0,V.int 0,V.int 0,V.int ((10:Int)^(9:Int).toNat),V.int ((10:Int)^(60:Int).toNat),V.int ((10:Int)^(60:Int).toNat-33)] ((j3:Nat):Int)=some (.int sc)/\(sc=0\/(100<=sc/\sc<=FIN)):=by
  have hF:FIN=10^60:=by decide+kernel
  have h9:(10:Int)^(9:Int).toNat=1000000000:=by decide+kernel
  have h60:(10:Int)^(60:Int).toNat=FIN:=by decide+kernel
  have hF2:1000000000<=FIN:=by decide+kernel
  rw[h9,h60];rcases (show j3=0\/j3=1\/j3=2\/j3=3\/j3=4\/j3=5 by omega)with e|e|e|e|e|e<;>subst e
  ·exact⟨0,rfl,.inl rfl⟩
  ·exact⟨0,rfl,.inl rfl⟩
  ·exact⟨0,rfl,.inl rfl⟩
  ·exact⟨1000000000,rfl,.inr ⟨by decide,hF2⟩⟩
  ·exact⟨FIN,rfl,.inr ⟨by omega,HK _⟩⟩
  ·exact⟨FIN-33,rfl,.inr ⟨by omega,by omega⟩⟩
 refine⟨l2,_,_,_,rfl,rfl,SqL.of af,hsc,?_⟩;have n2:A1≠l2:=fun e=>by rw[<-e,af]at hl2;cases hl2
 have hA2:(upd (upd H A1 (.lst (ws.map V.int))) l2 (.lst [V.int 0,V.int 0,V.int 0,V.int ((10:Int)^(9:Int).toNat),V.int ((10:Int)^(60:Int).toNat),V.int ((10:Int)^(60:Int).toNat-33)])) A1=some (.lst (ws.map V.int)):=by rw[az n2];exact af
 have s2:=(sA (.lst (ws.map V.int))).trans (aw.upd (o:=.lst [V.int 0,V.int 0,V.int 0,V.int ((10:Int)^(9:Int).toNat),V.int ((10:Int)^(60:Int).toNat),V.int ((10:Int)^(60:Int).toNat-33)]) hl2);clear hsc;generalize (upd (upd H A1 (.lst (ws.map V.int))) l2 (.lst [V.int 0,V.int 0,V.int 0,V.int ((10:Int)^(9:Int).toNat),V.int ((10:Int)^(60:Int).toNat),V.int ((10:Int)^(60:Int).toNat-33)]))=H3 at hA2 s2 ⊢;refine⟨fun σ' H'=>∃ws':List Int,σ'=[some (.int z),some (.int w),some (.int (1+(j1:Int))),some (.int (j2:Nat)),some (.ref A1),some (.int sc),none]/\aw H H'/\H' A1=some (.lst (ws'.map V.int))/\ws'.length=j1+1/\(∀x∈ws',0<x)/\ws'.sum<=FIN,?_,?_⟩
 ·refine eJ ?_;intro kD2;refine⟨_,rfl,_,_,rfl,rfl,_,rfl,?_⟩;have s9:=oW hw;have hF3:100<=FIN:=by decide+kernel
  refine bj (fun h4=>?_) (fun h4=>?_)
  ·obtain⟨x0,r0,rfl⟩:∃x0 r0,ws=x0::r0:=by
    cases ws with
    |nil=>cases lw
    |cons a b=>exact⟨a,b,rfl⟩
   have h4':0<sc:=Gu h4;have r9:=oW fun x hx=>hw x (F1 _ hx);rw[Gs]at lw;have e5:wV ((x0::r0).map V.int) (some 1) none=r0.map V.int:=Cp;refine⟨_,rfl,_,rfl,_,rfl,A1,_,rfl,SqL.of hA2,fun p5 hp5=>?_⟩;rw[e5];have n5:A1≠p5:=fun e=>by rw[<-e,hA2]at hp5;cases hp5
   have hA5:(upd H3 p5 (.lst (r0.map V.int))) A1=some (.lst ((x0::r0).map V.int)):=(by rw[az n5];exact hA2);refine⟨p5,r0,rfl,SqL.of af,_,_,rfl,rfl,_,rfl,A1,_,_,0,rfl,rfl,hA5,xN (j:=0) (by simp),?_⟩;refine⟨(sc-r0.sum)::r0,rfl,?_,?_,by rw[Gs];exact lw,fun x hx=>?_,?_⟩
   ·exact aw.set hA1 (s2.trans (aw.upd hp5))
   ·rw[af];rfl
   ·rcases Gg.mp hx with e|e
    ·rw[e];omega
    ·have:=hw x (F1 _ e);omega
   ·rw[List.sum_cons];omega
  ·exact⟨ws,rfl,s2,hA2,lw,fun x hx=>by have:=hw x hx;omega,by omega⟩
 rintro σ' H4 ⟨ws2,rfl,s4,hA4,lw2,pos2,fin2⟩;refine⟨_,rfl,A1,ws2,rfl,SqL.of hA4,?_⟩;have tpos:0<ws2.sum:=uD pos2 (fun e=>by rw[e]at lw2;cases lw2);have bdT:Bd 8000 ws2.sum:=(A0 (by omega) (by have:FIN<=10000000000000000000000000000000000000000000000000000000000000:=(by decide+kernel);omega)).mono (by decide);refine⟨_,rfl,1+(j1:Int),rfl,by omega,by omega,fun A5 hA5=>?_⟩;rw[show(1+(j1:Int)).toNat=j1+1 by omega];refine mE (n:=j1+1) (lo:=0) (fun i acc H5=>aw H4 H5/\H5 A5=some (.lst acc)/\Paired (ShE K H5) acc ((wsN w j2 ws2 i).map fun p=>(p.1,frT p.2 ws2.sum,frB p.2 ws2.sum))) ⟨aw.upd hA5,af,.nil⟩ ?_ ?_
 ·rintro i acc H5 hi ⟨s5,h5,pr5⟩;rw[show(0:Int)+(i:Int)=((i:Nat):Int) by omega];refine fo ?_;intro kq3 kr3;have il:i<ws2.length:=by omega
  have hat:atI (ws2.map V.int) ((i:Nat):Int)=some (.int (ws2.getD i 0)):=av (by rw[Gn,Gh il,List.getD_eq_getElem?_getD,Gh il];rfl);have wp:0<ws2.getD i 0:=pos2 _ (by rw[List.getD_eq_getElem?_getD,Gh il];exact Hv il);refine⟨_,rfl,_,rfl,_,_,rfl,rfl,_,_,rfl,rfl,(by show(0:Int)<_;decide),_,rfl,(j2+i) % 6,w,rfl,Nat.mod_lt _ (by decide),?_⟩;refine⟨_,rfl,_,rfl,A1,_,_,_,rfl,rfl,SqL.of (s5 _ _ hA4),hat,_,rfl,_,_,rfl,tpos,He wp,bdT,fun l6 hl6=>?_⟩;refine⟨aP rfl,fun l7 hl7=>?_⟩;have s7:=(aw.upd (o:=.tup [.int (frT (ws2.getD i 0) ws2.sum),.int (frB (ws2.getD i 0) ws2.sum)]) hl6).trans (aw.upd (o:=.tup [.str (c5 w ((j2+i) % 6)),.ref l6]) hl7);have h7:=s7 _ _ h5;have tk7:=TK.lst (o:=.lst (acc++[.ref l7])) h7;have lacc:acc.length<sizeLine:=by rw[Gi pr5,FY,wsN,FY,Ha];exact aN (by omega)
  refine⟨h7,lacc,?_,af,?_⟩
  ·exact fun b o e=>by rw[az (fun z=>by rw[z,hA5]at e;cases e)];exact s7 _ _ (s5 _ _ e)
  ·rw[wsN,List.range_succ,Gk,Gk];have n67:l6≠l7:=fun e=>by rw[<-e,af]at hl7;cases hl7
   exact Paired.app (Paired.imp (fun _ _ z=>(z.tk s7.tk).tk tk7) pr5) (.cons (ShE.tk tk7 ⟨l7,l6,rfl,SqT.of af,SqT.of (by rw[az n67];exact af)⟩) .nil)
 ·rintro acc H5 ⟨s5,h5,pr5⟩;obtain⟨zs,rfl,en,hz,hp⟩:=v8 pr5;have e0:((wsN w j2 ws2 (j1+1)).map fun p=>(p.1,frT p.2 ws2.sum,frB p.2 ws2.sum))=wSh (wsN w j2 ws2 ws2.length):=by
   unfold wSh;rw[xh,lw2]
  rw[e0]at en hp;have enn:zs.map (·.2)=(wsN w j2 ws2 ws2.length).map (·.1):=by rw[en,List.map_map];rfl
  have lz:zs.length=j1+1:=by have:=congrArg List.length enn;rw[FY,FY,wsN,FY,Ha,lw2]at this;exact this
  refine⟨A5,zs,rfl,SqL.of h5,hz,by rw[enn];exact zf (by omega),by omega,fun l8 ys hl8 py so=>?_⟩;obtain⟨S,pm,pS,eS⟩:=hp ys py;refine⟨l8,_,rfl,SqL.of af,fun l9 ob hl9 pl=>?_⟩;have s8:=(aw.upd (o:=.lst (ys.map fun z=>V.ref z.1)) hl8).trans (aw.upd (o:=.frz ob (.tup (ys.map fun z=>V.ref z.1))) hl9);refine q l9 S _ (s4.trans (s5.trans s8)) ⟨ob,_,pl,af,Paired.imp (fun _ _ z=>z.tk s8.tk) pS⟩ ?_;have tw:ir (wsN w j2 ws2 ws2.length)=ws2.sum:=xh;exact E6 (zf (by omega)) (fun p hp=>(xi pos2 p hp).1) (by rw[tw];exact tpos) (by rw[tw];exact fin2) pm (by rw[eS];exact so) (fun p hp=>(xi pos2 p hp).2)
def nI(K:Frag):Sp:=fun vs H Q _=>∃(z w:Int)(c:Nat),vs=[.int z,.int c,.int w]/\c<=1000/\∀(n:Int) H',aw H H'->0<=n->Q (.int n) H'
variable(fg:Df P w K mg base 2 "_law_date" ["_law_cell","_law_salt","_law_way"] (nI K))
theorem uM:aD ["_law_cell","_law_salt","_law_way"] ["_law_cell","_law_salt","_law_way"] (aq (top 54)):=by trivial
include B aB in
theorem u7(T:Tx K mg "_law_date" (top 54) ["_law_cell","_law_salt","_law_way"]):Df P w K mg base 2 "_law_date" ["_law_cell","_law_salt","_law_way"] (nI K):=by
 refine T.df uM (by rintro _ _ _ _ ⟨z,w,c,rfl,hc,q⟩;rfl) ?_;rintro f _ A _ s H _ Q E hr ⟨z,w,c,rfl,hc,q⟩;refine⟨_,(ao (aH (au bX (aE aB hr (aa (pv 0) (aa (pv 1) (aa ae ah)))) (aC bO (cM (aa ae (aa ae ah))) (au bf (au bV (pv 2) ae) ae) (fun _ _=>rfl))))),?_⟩;refine⟨_,rfl,_,rfl,z,c,14,rfl,by decide,hc,fun k hk=>?_⟩;refine⟨aP rfl,fun l hl=>?_⟩;have s1:=aw.upd (o:=.lst [V.int 1,V.int 70000000]) hl;have b0:=GP (w / 20) (show(2:Int)≠0 by decide);have b1:=GV (w / 20) (show(0:Int)<2 by decide);obtain⟨v,hv,v0⟩:∃v:Int,atI [V.int 1,V.int 70000000] (w / 20 % 2)=some (.int v)/\1<=v:=by
  rcases (show w / 20 % 2=0\/w / 20 % 2=1 by omega)with z|z
  ·rw[z];exact⟨1,rfl,by decide⟩
  ·rw[z];exact⟨70000000,rfl,by decide⟩
 refine⟨_,rfl,_,_,rfl,rfl,⟨by decide,by decide⟩,_,_,rfl,rfl,(by show(0:Int)<_;decide),l,_,_,_,rfl,rfl,SqL.of af,hv,_,_,rfl,rfl,.inl ⟨by omega,by omega⟩,?_⟩;exact q _ _ s1 (Int.mul_nonneg (by omega) (by omega))
def gN(K:Frag):Sp:=fun vs H Q _=>∃(c:Int)(b:Addr)(vs':List V)(rs:List (List Key)),vs=[.int c,.ref b]/\SqL K H b vs'/\Paired (eQ K H) vs' rs/\rs.length=13/\∀l C H',aw H H'->eO K H' l C->C.length<=12->(∀r∈C,r∈rs)->((rs.map bh).Nodup->(C.map bh).Nodup)->Q (.ref l) H'
variable(cE:Df P w K mg base 2 "_law_make_column" ["_law_cell","_law_pool"] (gN K))
theorem cX:aD ["_law_cell","_law_pool","_law_many","_law_start","_law_step"] ["_law_cell","_law_pool"] (aq (top 56)):=by trivial
include B aB in
theorem kQ(T:Tx K mg "_law_make_column" (top 56) ["_law_cell","_law_pool"]):Df P w K mg base 2 "_law_make_column" ["_law_cell","_law_pool"] (gN K):=by
 refine T.df cX (by rintro _ _ _ _ ⟨c,b,ws,rs,rfl,hb,pr,hl13,q⟩;rfl) ?_;rintro f _ A _ s H _ Q E hr ⟨c,b,ws,rs,rfl,hb,pr,hl13,q⟩;refine aQ ?_;intro kX;refine ai 3 (ao (aH (bL eK (by rfl) B.tuple boot_tuple (aa (bZ ["_law_k"] [("_law_pool",1),("_law_start",3),("_law_step",4)] (gg _ ["_law_step","_law_start","_law_pool"]) rfl (by rfl) rfl (by trivial) (by trivial) (aW (by rfl)) (cR (by rfl)) (mC ⟨rfl,rfl⟩ (mC ⟨rfl,rfl⟩ (mC ⟨rfl,rfl⟩ mN))) (mC rfl (mC rfl (mC rfl mN))) (b6 (by decide)) (bU (by rfl) B.range (aa (pv 2) ah)) (fun _ _ _ _=>aR (i:=0) (show(["_law_k","_law_pool","_law_start","_law_step"]:List Str).Nodup by trivial) rfl (Or.inl rfl) (Or.inr rfl)) (fun _ _ _ _=>cC) (fun _ _ _ _=>(aC (mm (K:=K) rfl) (pv 1) (au bf (au aY (pv 2) (au bX (pv 0) (pv 3))) ae) (fun _ _=>rfl)))) ah)))) ?_;intro kR3 pR3;refine ai 2 (aj (aA (i:=4) cX.nd rfl (by trivial) (au aY ae (aE aB hr (aa (pv 0) (aa ae (aa ae ah)))))) pR3) ?_;intro kR2 pR2;refine ai 1 (aj (aA (i:=3) cX.nd rfl (by trivial) (aE aB hr (aa (pv 0) (aa ae (aa ae ah))))) pR2) ?_;intro kR1 pR1;refine⟨_,(aj (aA (i:=2) cX.nd rfl (by trivial) (aC bO (cM (aa (aE aB hr (aa (pv 0) (aa ae (aa ae ah)))) (aa ae (aa ae ah)))) (aT (yS rfl) (by rfl) B.max boot_max (aa ae (aa (au dB (aE aB hr (aa (pv 0) (aa ae (aa ae ah)))) ae) ah))) (fun _ _=>rfl))) pR1),?_⟩;have lw:ws.length=rs.length:=Gi pr;refine⟨_,rfl,c,91,5,rfl,by decide,by decide,fun j1 hj1=>?_⟩;refine⟨aP rfl,fun l1 hl1=>?_⟩;have s1:=aw.upd (o:=.lst [V.int (j1:Nat),V.int 12,V.int 11]) hl1;refine⟨_,rfl,c,92,8,rfl,by decide,by decide,fun j2 hj2=>?_⟩;refine⟨_,_,rfl,rfl,_,_,rfl,?_⟩;obtain⟨n,hn,n12⟩:∃n:Nat,atI [V.int (j1:Nat),V.int 12,V.int 11] (if((j2:Nat):Int)-5>0 then((j2:Nat):Int)-5 else 0)=some (.int n)/\n<=12:=by
  rcases (show j2<=5\/j2=6\/j2=7 by omega)with z|z|z
  ·rw[F6 (by omega)];exact⟨j1,rfl,by omega⟩
  ·subst z;exact⟨12,rfl,by decide⟩
  ·subst z;exact⟨11,rfl,by decide⟩
 refine⟨l1,_,_,_,rfl,rfl,SqL.of af,hn,?_⟩;have hb1:=s1.seq hb;have pr1:=Paired.imp (fun _ _=>eQ.tk s1.tk) pr;generalize (upd H l1 (.lst [V.int (j1:Nat),V.int 12,V.int 11]))=H1 at s1 hb1 pr1 ⊢;refine⟨_,rfl,c,93,13,rfl,by decide,by decide,fun j3 hj3=>?_⟩;refine⟨_,rfl,c,94,12,rfl,by decide,by decide,fun j4 hj4=>?_⟩;refine⟨_,_,rfl,rfl,?_⟩;refine⟨_,rfl,n,rfl,by omega,by omega,fun A1 hA1=>?_⟩;rw[show((n:Int)).toNat=n by omega];have sA:∀o:HO,aw H1 (upd H1 A1 o):=fun o=>aw.upd hA1;refine mE (n:=n) (lo:=0) (fun i acc H2=>∃C:List (List Key),H2=upd H1 A1 (.lst acc)/\Paired (eQ K H1) acc C/\C.length=i/\(∀r∈C,r∈rs)/\∀t,t<i->C[t]?=rs[(j3+t*(1+j4)) % 13]?) ⟨[],rfl,.nil,rfl,(fun _ z=>nomatch z),fun _ z=>absurd z (Nat.not_lt_zero _)⟩ ?_ ?_
 ·rintro i acc H2 hi ⟨C,rfl,pC,lC,sub,ix⟩;refine fo ?_;intro kq1 kr1;have m0:=GP (((j3:Nat):Int)+(0+(i:Int))*(1+((j4:Nat):Int))) (show(13:Int)≠0 by decide);have m1:=GV (((j3:Nat):Int)+(0+(i:Int))*(1+((j4:Nat):Int))) (show(0:Int)<13 by decide);obtain⟨t,ht⟩:∃t:Nat,(((j3:Nat):Int)+(0+(i:Int))*(1+((j4:Nat):Int))) % 13=(t:Nat):=⟨_,(Int.toNat_of_nonneg m0).symm⟩;have tl:t<ws.length:=by omega
  obtain⟨r,hr,hbr⟩:=aX pr1 (i:=t) (x:=ws[t]'tl) (by simp);have hat:atI ws ((((j3:Nat):Int)+(0+(i:Int))*(1+((j4:Nat):Int))) % 13)=some (ws[t]'tl):=by rw[ht];exact av (by simp)
  refine⟨_,rfl,_,rfl,_,rfl,_,rfl,_,_,rfl,rfl,.inl ⟨by omega,by omega⟩,_,_,rfl,rfl,_,_,rfl,rfl,(by show(0:Int)<_;decide),b,_,_,_,rfl,rfl,(sA _).seq hb1,hat,af,?_,?_⟩
  ·rw[Gi pC];exact aN (by omega)
  ·refine⟨C++[r],by rw[bq],Paired.app pC (.cons hbr .nil),by rw[Gd,lC];rfl,fun x hx=>?_,fun t' ht'=>?_⟩;rcases Gj.mp hx with z|z
   ·exact sub x z
   ·rw[F2.mp z];exact Gb hr
   rcases Nat.lt_or_ge t' i with y|y
   ·rw[List.getElem?_append_left (by omega)];exact ix t' y
   ·have e:t'=i:=(by omega);subst e;have et:(j3+t'*(1+j4)) % 13=t:=by
     rw[Int.zero_add]at ht
     exact_mod_cast ht
    rw[List.getElem?_append_right (by omega),lC,Nat.sub_self,et,hr];rfl
 ·rintro acc H2 ⟨C,rfl,pC,lC,sub,ix⟩;refine⟨A1,_,rfl,.inl ⟨SqL.of af,fun l2 hl2=>?_⟩⟩;have s2:=(sA (.lst acc)).trans (aw.upd (o:=.tup acc) hl2);refine q l2 C _ (s1.trans s2) ⟨fun r hr k hk=>?_,acc,SqT.of af,?_⟩ (by omega) sub (fun nd=>D6 nd hl13 lC (by omega) ⟨by omega,by omega⟩ ix)
  ·obtain⟨v,_,hv⟩:∃v,v∈acc/\eQ K H1 v r:=by
    have:∀{xs:List V}{D:List (List Key)},Paired (eQ K H1) xs D->r∈D->∃v,v∈xs/\eQ K H1 v r:=by
     intro xs D p
     induction p with
     |nil=>intro h;cases h
     |cons a _ ih=>
      intro h;rcases Gg.mp h with e|e
      ·subst e;exact⟨_,F7 ..,a⟩
      ·obtain⟨v,h1,h2⟩:=ih e;exact⟨v,F1 _ h1,h2⟩
    exact this pC hr
   exact hv.1 k hk
  ·exact Paired.imp (fun _ _ z=>(z.tk s2.tk).2) pC
def ju(K:Frag):Sp:=fun vs H Q _=>∃(l:Addr)(xs:List V)(gs:List Nat)(c:Nat),vs=[.ref l,.int c]/\(SqL K H l xs\/SqT K H l xs)/\Paired (HdE K H) xs gs/\c<=64/\Q (cS xs gs c) H
variable(cF:Df P w K mg base 2 "_law_plot_of" ["_law_plots","_law_cell"] (ju K))
theorem jy:aD ["_law_plots","_law_cell","_law_plot"] ["_law_plots","_law_cell"] (aq (top 60)):=by trivial
include B bo in
theorem pY(T:Tx K mg "_law_plot_of" (top 60) ["_law_plots","_law_cell"]):Df P w K mg base 2 "_law_plot_of" ["_law_plots","_law_cell"] (ju K):=by
 refine T.df jy (by rintro _ _ _ _ ⟨l,xs,gs,c,rfl,hl,pr,hc,q⟩;rfl) ?_;rintro f _ A _ s H _ Q E hr ⟨l,xs,gs,c,rfl,hl,pr,hc,q⟩;refine aQ ?_;intro kX;refine ai 1 (ao (aH dA)) ?_;intro kR1 pR1;refine⟨_,(aj (dz GH rfl (zN (pv 0)) (aR (i:=2) jy.nd rfl (by trivial)) (ao (aU (dP (aE bo hr (aa (aC aF (pv 2) ae (fun _ _=>rfl)) (aa (pv 1) ah)))) (ao (aH (pv 2))) aK))) pR1),?_⟩;rcases hl with hl|hl
 ·refine .inl ⟨_,rfl,l,rfl,⟨_,hl⟩,fZ (K:=K) (a:=l) (xs:=xs) (fun i σ H2=>∃o2:Option V,σ=[some (.ref l),some (.int c),o2]/\H2=H/\cS xs gs c=cS (xs.drop i) (gs.drop i) c) ⟨none,rfl,rfl,rfl⟩ (fun i σ H2 _ hPz=>hPz.elim fun _ hPz=>(fun e=>by rw[e];exact hl) (hPz.2.1)) ?_ ?_⟩
  ·rintro i y σ H2 hi ⟨o2,rfl,rfl,e⟩;refine fm ?_;intro kD1;obtain⟨g,hg,r,rest,rfl,h1⟩:=aX pr hi;rw[iZ hi hg]at e;refine⟨_,rfl,r,_,_,_,rfl,rfl,h1,(av (j:=0) rfl),_,rfl,g,c,rfl,hc,_,rfl,?_⟩;refine bj (fun h2=>?_) (fun h2=>?_)
   ·rw[F8 h2]at e;refine⟨_,rfl,?_⟩;rw[e]at q;exact q
   ·rw[F6 h2]at e;exact⟨_,rfl,rfl,e⟩
  ·rintro σ H2 ⟨o2,rfl,rfl,e⟩;rw[List.drop_length]at e;have e2:cS xs gs c=.non:=(by rw[e];rfl);rw[e2]at q;exact q
 ·refine .inr ⟨_,rfl,l,rfl,⟨_,hl⟩,i0 (K:=K) (a:=l) (xs:=xs) (fun i σ H2=>∃o2:Option V,σ=[some (.ref l),some (.int c),o2]/\H2=H/\cS xs gs c=cS (xs.drop i) (gs.drop i) c) ⟨none,rfl,rfl,rfl⟩ (fun i σ H2 _ hPz=>hPz.elim fun _ hPz=>(fun e=>by rw[e];exact hl) (hPz.2.1)) ?_ ?_⟩
  ·rintro i y σ H2 hi ⟨o2,rfl,rfl,e⟩;refine fm ?_;intro kD2;obtain⟨g,hg,r,rest,rfl,h1⟩:=aX pr hi;rw[iZ hi hg]at e;refine⟨_,rfl,r,_,_,_,rfl,rfl,h1,(av (j:=0) rfl),_,rfl,g,c,rfl,hc,_,rfl,?_⟩;refine bj (fun h2=>?_) (fun h2=>?_)
   ·rw[F8 h2]at e;refine⟨_,rfl,?_⟩;rw[e]at q;exact q
   ·rw[F6 h2]at e;exact⟨_,rfl,rfl,e⟩
  ·rintro σ H2 ⟨o2,rfl,rfl,e⟩;rw[List.drop_length]at e;have e2:cS xs gs c=.non:=(by rw[e];rfl);rw[e2]at q;exact q
def rL(K:Frag):Sp:=fun vs H Q _=>∃(z:Int)(l:Addr)(xs:List V)(ps:List Plt)(m:Nat),vs=[.int z,.ref l,.int m]/\SqL K H l xs/\Paired (PlE K H) xs ps/\(∀p∈ps,(plD p).canLay0=true)/\(∀p∈ps,p.g≠0/\p.g<2^m)/\ps.length<=8/\(0<m/\m<=64)/\∀(c:Nat) H',c<m->aw H H'->Q (.int c) H'
variable(mD:Df P w K mg base 2 "_law_at" ["_law_cell","_law_plots","_law_many"] (rL K))
theorem mK:aD ["_law_cell","_law_plots","_law_many","_law_plot","_law_some"] ["_law_cell","_law_plots","_law_many"] (aq (top 61)):=by trivial
include B aB bo in
theorem yo(T:Tx K mg "_law_at" (top 61) ["_law_cell","_law_plots","_law_many"]):Df P w K mg base 2 "_law_at" ["_law_cell","_law_plots","_law_many"] (rL K):=by
 refine T.df mK (by rintro _ _ _ _ ⟨z,l,xs,ps,m,rfl,hl,pp,ly,hg,l8,⟨m0,m64⟩,q⟩;rfl) ?_;rintro f _ A _ s H _ Q E hr ⟨z,l,xs,ps,m,rfl,hl,pp,ly,hg,l8,⟨m0,m64⟩,q⟩;have hu:=hr.units;refine aQ ?_;intro kX;refine ai 3 (ao (aH (aC bO (pv 4) (aE aB hr (aa (pv 0) (aa ae (aa (aT bG (by rfl) B.len Ht (aa (pv 4) ah)) ah)))) (fun _ _=>rfl)))) ?_;intro kR3 pR3;refine ai 2 (aj (oz (i:=4) mK.nd rfl (by trivial) ["_law_k"] [("_law_plot",3)] (gg _ ["_law_plot"]) rfl (by rfl) rfl (by trivial) (by trivial) (aW (by rfl)) (cR (by rfl)) (mC ⟨rfl,rfl⟩ mN) (mC rfl mN) (b6 (by decide)) (bU (by rfl) B.range (aa (pv 2) ah)) (fun _ _ _ _=>aR (i:=0) (show(["_law_k","_law_plot"]:List Str).Nodup by trivial) rfl (Or.inl rfl) (Or.inr rfl)) (fun _ _ _ _=>iD (dP (aE bo hr (aa (aC (fO (K:=K) rfl) (pv 1) ae (fun _ _=>rfl)) (aa (pv 0) ah))))) (fun _ _ _ _=>(pv 0))) pR3) ?_;intro kR2 pR2;refine ai 1 (aj (aA (i:=3) mK.nd rfl (by trivial) (aC bO (pv 1) (aE aB hr (aa (pv 0) (aa ae (aa (aT bG (by rfl) B.len Ht (aa (pv 1) ah)) ah)))) (fun _ _=>rfl))) pR2) ?_;intro kR1 pR1;refine⟨_,(aj (aU ((uQ (aJ (DA hu) (pv 1) (cM ah) (aI _)) (pJ (aJ ck (aE aB hr (aa (pv 0) (aa ae (aa ae ah)))) ae (aI _)))).pt) (ao (aH (aE aB hr (aa (pv 0) (aa ae (aa (pv 2) ah)))))) aK) pR1),?_⟩;have lx:=Gi pp;refine⟨_,rfl,aP rfl,fun e he=>?_⟩;have s1:=aw.upd (o:=.lst []) he;have he1:(upd H e (.lst [])) e=some (.lst []):=af;generalize (upd H e (.lst []))=H1 at s1 he1 ⊢;have hl1:=s1.seq hl;have pp1:=Paired.imp (fun _ _ y=>PlE.tk s1.tk y) pp;refine⟨.list (ps.map plD),.list [],.lst hl1 (pL pp1),.lst (SqL.of he1) .nil,lV ly,rfl,Gq rfl,_,rfl,?_⟩;refine bj (fun h1=>⟨_,rfl,_,rfl,z,97,m,rfl,m0,by decide,fun k hk=>q k _ hk s1⟩) (fun h1=>?_);have ne:ps≠[]:=fun y=>h1 (by subst y;rfl);have pos:0<ps.length:=List.length_pos_iff.mpr ne;refine⟨_,rfl,z,96,8,rfl,by decide,by decide,fun j hj=>⟨rfl,_,rfl,?_⟩⟩;refine bj (fun h2=>⟨_,rfl,_,rfl,z,97,m,rfl,m0,by decide,fun k hk=>q k _ hk s1⟩) (fun h2=>?_);refine⟨_,rfl,_,rfl,_,rfl,l,xs,rfl,.inl hl1,z,98,xs.length,rfl,by omega,by decide,fun k hk=>?_⟩;obtain⟨p,hp,r,ls,lr,ev,r1,r2,r3⟩:=aX pp1 (Gh hk);obtain⟨g0,gm⟩:=hg p (Gb hp);refine⟨l,_,_,_,rfl,rfl,hl1,av (Gh hk),?_⟩;rw[ev];refine⟨_,rfl,m,rfl,by omega,by omega,fun A hA=>?_⟩;have sA:∀o:HO,aw H1 (upd H1 A o):=fun o=>aw.upd hA;have lf:∀i,i<=m->((List.range i).filter p.g.testBit).length<=64:=fun i hi=>GA (Hk _ _) (by rw[Ha];omega);rw[Hb];refine mE (n:=m) (lo:=0) (fun i acc H2=>H2=upd H1 A (.lst acc)/\acc=NV ((List.range i).filter p.g.testBit)) ⟨rfl,rfl⟩ ?_ ?_
 ·rintro i acc H2 hi ⟨rfl,rfl⟩;rw[show(0:Int)+(i:Int)=((i:Nat):Int) by omega];refine fo ?_;intro kq1 kr1;refine⟨_,rfl,r,_,_,_,rfl,rfl,(sA _).tup r1,av (j:=0) rfl,_,rfl,p.g,i,rfl,by omega,_,rfl,?_⟩;refine bj (fun h3=>?_) (fun h3=>⟨rfl,?_⟩)
  ·refine⟨_,rfl,af,?_,by rw[bq],?_⟩
   ·rw[FY];exact aN (by have:=lf i (by omega);omega)
   ·rw[List.range_succ,Ho,jb];simp[h3]
  ·rw[List.range_succ,Ho,jb];simp[h3]
 rintro acc H2 ⟨rfl,rfl⟩;have posF:0<((List.range m).filter p.g.testBit).length:=by have b1:LM.dS p.g<m:=iY gm m64 g0;have:LM.dS p.g∈(List.range m).filter p.g.testBit:=Hy.mpr ⟨GN.mpr b1,(eI (F5 gm (GY (by decide) m64)) g0).1⟩;exact List.length_pos_of_mem this
 refine⟨_,rfl,_,rfl,_,rfl,A,_,rfl,.inl (SqL.of af),z,99,(NV ((List.range m).filter p.g.testBit)).length,rfl,by rw[FY];exact posF,by decide,fun k hk=>?_⟩;rw[FY]at hk;refine⟨A,_,_,_,rfl,rfl,SqL.of af,av (by rw[Gn,Gh hk];rfl),q _ _ ?_ (s1.trans (sA _))⟩;exact GN.mp (Hy.mp (Hv hk)).1
def gJ(K:Frag):Sp:=fun vs H Q _=>∃(z w:Int),vs=[.int z,.int w]/\∀l ss H',aw H H'->SqT K H' l (SV ss)->(∀x∈ss,PyData.canLay0 (.str x)=true)->Q (.ref l) H'
variable(dI:Df P w K mg base 2 "_law_make_signed" ["_law_cell","_law_way"] (gJ K))
theorem fe:aD ["_law_cell","_law_way","_law_some"] ["_law_cell","_law_way"] (aq (top 62)):=by trivial
include B aB bM bo in
theorem kM(T:Tx K mg "_law_make_signed" (top 62) ["_law_cell","_law_way"]):Df P w K mg base 2 "_law_make_signed" ["_law_cell","_law_way"] (gJ K):=by
 refine T.df fe (by rintro _ _ _ _ ⟨z,w,rfl,q⟩;rfl) ?_;rintro f _ A _ s H _ Q E hr ⟨z,w,rfl,q⟩;refine aQ ?_;intro kX;refine ai 2 (ao (aH (bL eK (by rfl) B.tuple boot_tuple (aa (bZ ["_law_k"] [("_law_way",1),("_law_some",2)] (gg _ ["_law_way","_law_some"]) rfl (by rfl) rfl (by trivial) (by trivial) (aW (by rfl)) (cR (by rfl)) (mC ⟨rfl,rfl⟩ (mC ⟨rfl,rfl⟩ mN)) (mC rfl (mC rfl mN)) (b6 (by decide)) (bU (by rfl) B.range (aa ae ah)) (fun _ _ _ _=>aR (i:=0) (show(["_law_k","_law_way","_law_some"]:List Str).Nodup by trivial) rfl (Or.inl rfl) (Or.inr rfl)) (fun _ _ _ _=>iD (dP (aE bo hr (aa (pv 2) (aa (pv 0) ah))))) (fun _ _ _ _=>(aE bM hr (aa (pv 0) (aa (pv 1) ah))))) ah)))) ?_;intro kR2 pR2;refine ai 1 (aZ (aU (aJ ck (aE aB hr (aa (pv 0) (aa ae (aa ae ah)))) ae (aI _)) (ao (aA (i:=2) fe.nd rfl (by trivial) (aE aB hr (aa (pv 0) (aa ae (aa ae ah)))))) aK) pR2) ?_;intro kR1 pR1;refine⟨_,(aj (aA (i:=2) fe.nd rfl (by trivial) ae) pR1),?_⟩;refine⟨fun σ' H'=>∃m:Nat,σ'=[some (.int z),some (.int w),some (.int m)]/\H'=H,?_,?_⟩
 ·refine eJ ?_;intro kD1;refine⟨_,rfl,z,2,4,rfl,by decide,by decide,fun j hj=>⟨rfl,_,rfl,?_⟩⟩;refine bj (fun h1=>?_) (fun h1=>⟨63,rfl,rfl⟩);exact⟨_,rfl,z,3,64,rfl,by decide,by decide,fun m hm=>⟨m,rfl,rfl⟩⟩
 rintro σ' H' ⟨m,rfl,rfl⟩;refine⟨6,rfl,by decide,by decide,fun A hA=>?_⟩;refine mE (n:=6) (lo:=0) (fun i acc H2=>H2=upd H' A (.lst acc)/\∃ss,acc=SV ss/\ss.length<=i/\∀x∈ss,PyData.canLay0 (.str x)=true) ⟨rfl,[],rfl,F4 _,fun _ y=>nomatch y⟩ ?_ ?_
 ·rintro i acc H2 hi ⟨rfl,ss,rfl,ls,lay⟩;rw[show(0:Int)+(i:Int)=((i:Nat):Int) by omega];refine fo ?_;intro kq2 kr2;refine⟨_,rfl,_,rfl,m,i,rfl,by omega,_,rfl,?_⟩;refine bj (fun h1=>?_) (fun h1=>⟨rfl,ss,rfl,by omega,lay⟩);refine⟨_,rfl,_,rfl,i,w,rfl,hi,af,?_,by rw[bq],ss++[c5 w i],by simp[SV],by rw[Gd,G7];omega,fun x hx=>?_⟩
  ·rw[show(SV ss).length=ss.length from FY _];exact aN (by omega)
  ·rcases Gj.mp hx with y|y
   ·exact lay x y
   ·rw[F2.mp y];exact(tR hi).1.lay
 rintro acc H2 ⟨rfl,ss,rfl,ls,lay⟩;refine⟨A,_,rfl,.inl ⟨SqL.of af,fun l hl=>?_⟩⟩;exact q l ss _ ((aw.upd hA).trans (aw.upd hl)) (SqT.of af) lay
def gH(K:Frag):Sp:=fun vs H Q _=>∃(z:Int)(c:Nat)(v:V)(w h:Nat),vs=[.int z,.int c,v,.int w,.int h]/\c<=64/\(v=.non\/∃p,PlE K H v p)/\(0<w/\w<=8/\0<h/\h<=8)/\∀g:Int,Q (.int g) H
variable(dF:Df P w K mg base 2 "_law_told_ground" ["_law_cell","_law_at_here","_law_plot","_law_wide","_law_high"] (gH K))
theorem fb:aD ["_law_cell","_law_at_here","_law_plot","_law_wide","_law_high","_law_kind","_law_ground"] ["_law_cell","_law_at_here","_law_plot","_law_wide","_law_high"] (aq (top 68)):=by trivial
include B aB in
theorem kK(T:Tx K mg "_law_told_ground" (top 68) ["_law_cell","_law_at_here","_law_plot","_law_wide","_law_high"]):Df P w K mg base 2 "_law_told_ground" ["_law_cell","_law_at_here","_law_plot","_law_wide","_law_high"] (gH K):=by
 refine T.df fb (by rintro _ _ _ _ ⟨z,c,v,w,h,rfl,hc,hv,⟨hw,hw8,hh,hh8⟩,q⟩;rfl) ?_;rintro f _ A _ s H _ Q E hr ⟨z,c,v,w,h,rfl,hc,hv,⟨hw,hw8,hh,hh8⟩,q⟩;refine aQ ?_;intro kX;refine ai 4 (ao (aH (au CN (pv 6) (au fJ ae (pv 1))))) ?_;intro kR4 pR4;refine ai 3 (aj (aA (i:=6) fb.nd rfl (by trivial) (au zY (aC aF (pv 2) ae (fun _ _=>rfl)) (au fJ ae (aE aB hr (aa (pv 0) (aa ae (aa (au bX (pv 3) (pv 4)) ah))))))) pR4) ?_;intro kR3 pR3;refine ai 2 (aj (aU (aJ kC (pv 5) ae (aI _)) (ao (aH (aC aF (pv 2) ae (fun _ _=>rfl)))) aK) pR3) ?_;intro kR2 pR2;refine ai 1 (aj (aU ((uQ (aJ kC (pv 5) ae (aI _)) (pJ (aJ mU (pv 2) dA (aI _)))).pt) (ao (aH ae)) aK) pR2) ?_;intro kR1 pR1;refine⟨_,(aj (aA (i:=5) fb.nd rfl (by trivial) (aE aB hr (aa (pv 0) (aa ae (aa ae ah))))) pR1),?_⟩;have hwh:w*h<=64:=Nat.mul_le_mul hw8 hh8;have hwp:0<w*h:=Nat.mul_pos hw hh;have e1:((w:Int)*(h:Int))=((w*h:Nat):Int):=by simp
 refine⟨_,rfl,z,104,6,rfl,by decide,by decide,fun k hk=>?_⟩;refine⟨_,rfl,_,_,rfl,rfl,_,rfl,?_⟩;refine bj (fun h1=>q 0) (fun h1=>?_);rcases hv with rfl|⟨p,hp⟩
 ·exact⟨_,rfl,rfl,_,rfl,jh (q 0)⟩
 obtain⟨l,l1',lr,rfl,p1,p2,p3⟩:=hp;refine⟨_,rfl,rfl,_,rfl,fq ?_⟩;refine⟨_,rfl,_,_,rfl,rfl,_,rfl,?_⟩;refine bj (fun h2=>⟨_,rfl,l,_,_,_,rfl,rfl,p1,av (j:=0) rfl,q _⟩) (fun h2=>?_);refine⟨_,rfl,l,_,_,_,rfl,rfl,p1,av (j:=0) rfl,_,rfl,_,rfl,_,rfl,_,_,rfl,rfl,.inl ⟨by omega,by omega⟩,z,105,w*h,congrArg (fun x=>[V.int z,V.int 105,V.int x]) e1,hwp,by decide,fun j hj=>?_⟩;refine⟨_,_,rfl,rfl,⟨by omega,by omega,by decide⟩,_,_,rfl,rfl,?_⟩;exact⟨_,rfl,_,rfl,_,_,rfl,rfl,⟨by omega,by omega,by decide⟩,_,_,rfl,rfl,q _⟩
def iy(K:Frag):Sp:=fun vs H Q _=>∃(z:Int)(y:Addr)(t b:Int),vs=[.int z,.ref y]/\SqT K H y [.int t,.int b]/\0<b/\0<=t/\Bd 900 t/\Bd 900 b/\∀(l:Addr)(t' b':Int) H',aw H H'->SqT K H' l [.int t',.int b']->0<b'->0<t'->Bd 900 t'->Bd 900 b'->Q (.ref l) H'
variable(eY:Df P w K mg base 2 "_law_make_part" ["_law_cell","_law_share"] (iy K))
theorem fG:aD ["_law_cell","_law_share","_law_kind","_law_bottom"] ["_law_cell","_law_share"] (aq (top 70)):=by trivial
include B aB cy in
theorem mX(T:Tx K mg "_law_make_part" (top 70) ["_law_cell","_law_share"]):Df P w K mg base 2 "_law_make_part" ["_law_cell","_law_share"] (iy K):=by
 refine T.df fG (by rintro _ _ _ _ ⟨z,y,t,b,rfl,hy,b0,t0,bt,bb,q⟩;rfl) ?_;rintro f _ A _ s H _ Q E hr ⟨z,y,t,b,rfl,hy,b0,t0,bt,bb,q⟩;refine aQ ?_;intro kX;refine ai 4 (ao (aH (aE cy hr (aa (au aY ae (au bf (au bV (pv 0) ae) (pv 3))) (aa (pv 3) ah))))) ?_;intro kR4 pR4;refine ai 3 (aj (aA (i:=3) fG.nd rfl (by trivial) (au aY ae (au bf (pv 0) (aC bO (cM (aa ae (aa ae (aa (au gc ae ae) ah)))) (aE aB hr (aa (pv 0) (aa ae (aa ae ah)))) (fun _ _=>rfl))))) pR4) ?_;intro kR3 pR3;refine ai 2 (aZ (aU ((ip (aJ ck (pv 2) ae (aI _)) (ip (aJ kC (aC aF (pv 1) ae (fun _ _=>rfl)) (aC aF (pv 1) ae (fun _ _=>rfl)) (aI _)) (hV (aJ CO (aC aF (pv 1) ae (fun _ _=>rfl)) (au gc ae ae) (aI _))))).pt) (ao (aH (aE cy hr (aa (au aY (aC aF (pv 1) ae (fun _ _=>rfl)) ae) (aa (aC aF (pv 1) ae (fun _ _=>rfl)) ah))))) aK) pR3) ?_;intro kR2 pR2;refine ai 1 (aZ (aU ((ip (aJ ck (pv 2) ae (aI _)) (ip (aJ kC ae (aC aF (pv 1) ae (fun _ _=>rfl)) (aI _)) (hV (aJ CO (aC aF (pv 1) ae (fun _ _=>rfl)) (au gc ae ae) (aI _))))).pt) (ao (aH (pv 1))) aK) pR2) ?_;intro kR1 pR1;refine⟨_,(aj (aA (i:=2) fG.nd rfl (by trivial) (aE aB hr (aa (pv 0) (aa ae (aa ae ah))))) pR1),?_⟩;have h9:(10:Int)^(9:Int).toNat=1000000000:=by decide
 have B9:∀{i:Int},0<=i->i<=1000000001->Bd 900 i:=fun a c=>(A0 (by omega) (by omega)).mono (by decide);have fin:∀(u c:Int),0<c->0<u->c<=1000000000->u<=1000000001->∀{H1:Hp},aw H H1->∀l,H1 l=none->Q (.ref l) (upd H1 l (.tup [.int (frT u c),.int (frB u c)])):=fun u c c0 u0 c1 u1 H1 s1 l hl=>q l _ _ _ (s1.trans (aw.upd hl)) (SqT.of af) (oH c0) (oF u0 c0) (Bd.frT (B9 (by omega) (by omega))) (Bd.frB (B9 (by omega) (by omega)))
 have B8:∀{i:Int},0<=i->i<=1000000001->Bd 8000 i:=fun a c=>(B9 a c).mono (by decide);have last:∀c:Int,0<c->c<=1000000000->0<1+z / 9 % c/\1+z / 9 % c<=1000000001:=fun c c0 c1=>by have:=GP (z / 9) (show c≠0 by omega);have:=GV (z / 9) c0;omega
 refine⟨_,rfl,z,106,5,rfl,by decide,by decide,fun k hk=>?_⟩;refine⟨fun σ' H'=>H'=H/\σ'=[some (.int z),some (.ref y),some (.int (k:Nat)),none],?_,?_⟩
 ·refine eJ ?_;intro kD1;refine⟨_,rfl,rfl,_,rfl,?_⟩;refine bj (fun h1=>?_) (fun h1=>fq ⟨rfl,rfl⟩);refine⟨_,rfl,y,_,_,_,rfl,rfl,hy,av (j:=0) rfl,_,_,rfl,rfl,_,rfl,?_⟩;refine bj (fun h2=>?_) (fun h2=>fq ⟨rfl,rfl⟩);refine⟨_,rfl,y,_,_,_,rfl,rfl,hy,av (j:=1) rfl,_,_,rfl,rfl,⟨by decide,by decide,by decide⟩,_,_,rfl,rfl,_,rfl,?_⟩;refine bj (fun h3=>?_) (fun h3=>⟨rfl,rfl⟩);have h2':0<t:=Gu h2;have h3':b<=1000000000:=by rw[<-h9];exact Gu h3
  exact⟨_,rfl,q y t b _ (aw.refl _) hy b0 h2' bt bb⟩
 rintro σ' H1 ⟨rfl,rfl⟩;refine⟨fun σ' H'=>H'=H1/\σ'=[some (.int z),some (.ref y),some (.int (k:Nat)),none],?_,?_⟩
 ·refine eJ ?_;intro kD2;refine⟨_,rfl,rfl,_,rfl,?_⟩;refine bj (fun h1=>?_) (fun h1=>fq ⟨rfl,rfl⟩);refine⟨_,rfl,y,_,_,_,rfl,rfl,hy,av (j:=0) rfl,_,rfl,y,_,_,_,rfl,rfl,hy,av (j:=1) rfl,_,_,rfl,rfl,_,rfl,?_⟩;refine bj (fun h2=>?_) (fun h2=>fq ⟨rfl,rfl⟩);refine⟨_,rfl,y,_,_,_,rfl,rfl,hy,av (j:=1) rfl,_,_,rfl,rfl,⟨by decide,by decide,by decide⟩,_,_,rfl,rfl,_,rfl,?_⟩;refine bj (fun h3=>?_) (fun h3=>⟨rfl,rfl⟩);have h2':t<b:=Gu h2;have h3':b<=1000000000:=by rw[<-h9];exact Gu h3
  exact⟨_,rfl,y,_,_,_,rfl,rfl,hy,av (j:=0) rfl,_,_,rfl,rfl,_,rfl,y,_,_,_,rfl,rfl,hy,av (j:=1) rfl,_,_,rfl,b0,by omega,B8 (by omega) (by omega),fin _ _ b0 (by omega) h3' (by omega) (aw.refl _)⟩
 rintro σ' H2 ⟨rfl,rfl⟩;refine⟨_,rfl,_,_,rfl,rfl,⟨by decide,by decide,by decide⟩,aP rfl,fun l2 hl2=>?_⟩;have s2:=aw.upd (o:=.lst [V.int 9,V.int 9,V.int ((10:Int)^(9:Int).toNat)]) hl2;refine⟨_,rfl,z,107,3,rfl,by decide,by decide,fun j hj=>?_⟩;obtain⟨c,hat,c0,c1⟩:∃c:Int,atI [V.int 9,V.int 9,V.int ((10:Int)^(9:Int).toNat)] ((j:Nat):Int)=some (.int c)/\0<c/\c<=1000000000:=by
  rw[h9]
  match j,hj with
  | 0,_=>exact⟨9,rfl,by decide,by decide⟩
  | 1,_=>exact⟨9,rfl,by decide,by decide⟩
  | 2,_=>exact⟨1000000000,rfl,by decide,by decide⟩
 refine⟨l2,_,_,_,rfl,rfl,SqL.of af,hat,_,_,rfl,rfl,c0,_,_,rfl,rfl,?_⟩;have m0:=GP z (show c≠0 by omega);have m1:=GV z c0;have L:=last (1+z % c) (by omega) (by omega);have m1p:(0:Int)<1+z % c:=by omega
 exact⟨_,rfl,_,_,rfl,rfl,⟨by decide,by decide⟩,_,rfl,_,_,rfl,rfl,m1p,_,_,rfl,rfl,_,rfl,_,_,rfl,m1p,by omega,B8 (by omega) (by omega),fin _ _ m1p L.1 (by omega) L.2 s2⟩
def kl(K:Frag):Sp:=fun vs H Q _=>∃(a lw sg pa:Addr)(t0:V)(num since:Int)(P0:Plt)(G:gZ),vs=[.ref a,.ref lw]/\ShF K H a P0.S/\ShG P0.S/\SqT K H lw (Dn t0 num since sg pa G)/\SqT K H pa [.int G.t,.int G.b]/\nW G/\¬ltG P0 G/\∀l ss H',aw H H'->ss.Perm ((c7 P0 G).map (·.1))->sortedS ss=true->ShT K H' l (fh (c7 P0 G) ss)->Q (.ref l) H'
variable(gz:Df P w K mg base 2 "_law_behind" ["_law_shares","_law_row"] (kl K))
theorem eE:aD ["_law_shares","_law_row","_law_found","_law_held","_law_part"] ["_law_shares","_law_row"] (aq (top 72)):=by trivial
include B cy in
theorem q5(T:Tx K mg "_law_behind" (top 72) ["_law_shares","_law_row"]):Df P w K mg base 2 "_law_behind" ["_law_shares","_law_row"] (kl K):=by
 refine T.df eE (by rintro _ _ _ _ ⟨a,lw,sg,pa,t0,num,since,P0,G,rfl,hF,hS,hw,hpa,hG,hlt,q⟩;rfl) ?_;rintro f _ A _ s H _ Q E hr ⟨a,lw,sg,pa,t0,num,since,P0,G,rfl,hF,hS,hw,hpa,hG,hlt,q⟩;have hu:=hr.units;refine aQ ?_;intro kX;refine ai 6 (ao (aH (bL eK (by rfl) B.tuple boot_tuple (aa (bZ ["_law_name_here"] [("_law_found",2)] (gg _ ["_law_found"]) rfl (by rfl) rfl (by trivial) (by trivial) (aW (by rfl)) (cR (by rfl)) (mC ⟨rfl,rfl⟩ mN) (mC rfl mN) (b6 (by decide)) (dE (aT (qu rfl) (by rfl) B.sorted (by trivial) (aa (pv 2) ah))) (fun _ _ _ _=>aR (i:=0) (show(["_law_name_here","_law_found"]:List Str).Nodup by trivial) rfl (Or.inl rfl) (Or.inr rfl)) (fun _ _ _ _=>iD (aJ jG (aC (fO (K:=K) rfl) (iV (fC hr) (pv 1) (pv 0) (fun _ _=>rfl)) ae (fun _ _=>rfl)) ae (aI _))) (fun _ _ _ _=>(bp (aa (pv 0) (aa (iV (fC hr) (pv 1) (pv 0) (fun _ _=>rfl)) ah))))) ah)))) ?_;intro kR6 pR6;refine ai 5 (aj (iS (fC hr) (pv 2) (aC aF (pv 1) ae (fun _ _=>rfl)) (aE cy hr (aa (au aY (au cH (aC aF (pv 3) ae (fun _ _=>rfl)) (aC aF (pv 4) ae (fun _ _=>rfl))) (au cH (aC aF (pv 4) ae (fun _ _=>rfl)) (aC aF (pv 3) ae (fun _ _=>rfl)))) (aa (au cH (aC aF (pv 3) ae (fun _ _=>rfl)) (aC aF (pv 4) ae (fun _ _=>rfl))) ah))) rfl) pR6) ?_;intro kR5 pR5;refine ai 4 (aj (aA (i:=3) eE.nd rfl (by trivial) (lW (fC hr) (pv 2) (aC aF (pv 1) ae (fun _ _=>rfl)) (bp (aa ae (aa ae ah))) ⟨rfl,rfl,rfl,rfl⟩)) pR5) ?_;intro kR4 pR4;refine ai 3 (aj (iS (fC hr) (pv 2) (aC aF (pv 1) ae (fun _ _=>rfl)) (aE cy hr (aa (au dB (au cH (aC aF (pv 3) ae (fun _ _=>rfl)) (aC aF (pv 4) ae (fun _ _=>rfl))) (au cH (aC aF (pv 4) ae (fun _ _=>rfl)) (aC aF (pv 3) ae (fun _ _=>rfl)))) (aa (au cH (aC aF (pv 3) ae (fun _ _=>rfl)) (aC aF (pv 4) ae (fun _ _=>rfl))) ah))) rfl) pR4) ?_;intro kR3 pR3;refine ai 2 (aj (aA (i:=4) eE.nd rfl (by trivial) (aC aF (pv 1) ae (fun _ _=>rfl))) pR3) ?_;intro kR2 pR2;refine ai 1 (aj (aA (i:=3) eE.nd rfl (by trivial) (lW (fC hr) (pv 2) (aC aF (pv 1) ae (fun _ _=>rfl)) (bp (aa ae (aa ae ah))) ⟨rfl,rfl,rfl,rfl⟩)) pR2) ?_;intro kR1 pR1;refine⟨_,(aj (aA (i:=2) eE.nd rfl (by trivial) (bL (qx rfl) (by rfl) B.dict boot_dict (aa (pv 0) ah))) pR1),?_⟩;obtain⟨pg,S,pR,plast⟩:=P0;obtain⟨cc,g,k,t,b,gr⟩:=G;have hok:nz S:=hS.ok;have hB:ShB 900 S:=hS.bd;have hz:S.length<=50:=hS.len;replace hF:ShF K H a S:=hF;replace hpa:SqT K H pa [.int t,.int b]:=hpa;replace hw:SqT K H lw [t0,.int num,.int since,.ref sg,.int cc,.str g,.str k,.ref pa,.int gr]:=hw;replace q:∀l ss H',aw H H'->ss.Perm ((iF S g k (t,b)).map (·.1))->sortedS ss=true->ShT K H' l (fh (iF S g k (t,b)) ss)->Q (.ref l) H':=q;have b0:0<b:=hG.b;have t0':0<t:=hG.t;have b1:Bd 900 t:=hG.bt;have b2:Bd 900 b:=hG.bb;have hlt':¬(aG S g).1*b<t*(aG S g).2:=hlt;have ag:=hok.at g;have bg:=hB.at (by decide) g;have B2:∀{z:Int},Bd 900 z->Bd 20000 z:=fun h=>h.mono (by decide);have B3:∀{z:Int},Bd 1801 z->Bd 20000 z:=fun h=>h.mono (by decide);obtain⟨o1,vs1,kv1,d1,d2,d3,d4⟩:=hF.dictE hok.nd;refine⟨_,rfl,a,o1,vs1,kv1,rfl,d1,d2,d3,fun d hd=>?_⟩;have hD:=d4 d hd;have s1:=aw.upd (o:=.dK (dR [] kv1)) hd;generalize (upd H d (.dK (dR [] kv1)))=H1 at hD s1 ⊢;obtain⟨kvs,hkd,r⟩:=hD;have lk:kvs.length=S.length:=Gi r;have hw1:=s1.tup hw;refine⟨_,rfl,d,rfl,.inl ⟨_,.inl hkd⟩,_,rfl,lw,_,_,_,rfl,rfl,hw1,av (j:=5) rfl,aP rfl,fun l0 hl0=>?_⟩;have s2:=aw.upd (o:=.tup [.int 0,.int 1]) hl0;obtain⟨p,ep,hp⟩:=zw (x:=g) (Paired.imp (fun _ _=>ShV.tk s2.tk) r) (SqT.of (af (H:=H1) (a:=l0) (o:=.tup [.int 0,.int 1])));have hkd2:=s2 _ _ hkd;have r2:=Paired.imp (fun _ _=>ShV.tk s2.tk) r;have s12:=s1.trans s2;generalize (upd H1 l0 (.tup [.int 0,.int 1]))=H2 at s2 hp hkd2 r2 s12 ⊢;refine⟨_,jj.k (k:=Sum.inr g) hkd2,?_⟩;rw[ep];have hw2:=s12.tup hw;have hy:=s12.tup hpa;have bm:=vL (f:=aG S g) (g:=(t,b)) bg.1 bg.2 b1 b2;refine⟨_,rfl,lw,_,_,_,rfl,rfl,hw2,av (j:=7) rfl,?_⟩;refine⟨_,rfl,p,_,_,_,rfl,rfl,hp,av (j:=0) rfl,_,rfl,pa,_,_,_,rfl,rfl,hy,av (j:=1) rfl,_,_,rfl,rfl,⟨B2 bg.1,B2 b2⟩,_,rfl,pa,_,_,_,rfl,rfl,hy,av (j:=0) rfl,_,rfl,p,_,_,_,rfl,rfl,hp,av (j:=1) rfl,_,_,rfl,rfl,⟨B2 b1,B2 bg.2⟩,_,_,rfl,rfl,_,rfl,p,_,_,_,rfl,rfl,hp,av (j:=1) rfl,_,rfl,pa,_,_,_,rfl,rfl,hy,av (j:=1) rfl,_,_,rfl,rfl,⟨B2 bg.2,B2 b2⟩,_,_,rfl,HJ ag.1.pos b0,Int.sub_nonneg_of_le (Int.not_lt.mp hlt'),(bg.2.mul b2).mono (by decide),fun l hl=>?_⟩;have nn:=me (f:=aG S g) (g:=(t,b)) ag.1.pos b0 hlt';have s3:=aw.upd (o:=.tup [.int (frT ((aG S g).1*b-t*(aG S g).2) ((aG S g).2*b)),.int (frB ((aG S g).1*b-t*(aG S g).2) ((aG S g).2*b))]) hl;have hl3:SqT K (upd H2 l (.tup [.int (frT ((aG S g).1*b-t*(aG S g).2) ((aG S g).2*b)),.int (frB ((aG S g).1*b-t*(aG S g).2) ((aG S g).2*b))])) l [.int (cq (aG S g) (t,b)).1,.int (cq (aG S g) (t,b)).2]:=SqT.of af;have hkd3:=s3 _ _ hkd2;have r3:=Paired.imp (fun _ _=>ShV.tk s3.tk) r2;have s13:=s12.trans s3;generalize (upd H2 l (.tup [.int (frT ((aG S g).1*b-t*(aG S g).2) ((aG S g).2*b)),.int (frB ((aG S g).1*b-t*(aG S g).2) ((aG S g).2*b))]))=H3 at s3 hl3 hkd3 r3 s13 ⊢;have hw3:=s13.tup hw;refine⟨_,rfl,_,rfl,lw,_,_,_,rfl,rfl,hw3,av (j:=5) rfl,d,_,rfl,qG.k (k:=Sum.inr g) hkd3 (aN (by omega)),?_⟩;have t4:=TK.dK (o:=.dK (putK kvs (Sum.inr g) (.ref l))) hkd3;have r4:=Paired.imp (fun _ _=>ShV.tk t4) (ow (x:=g) hl3 r3);have s14:aw H (upd H3 d (.dK (putK kvs (Sum.inr g) (.ref l)))):=fun c o e=>by rw[az (fun z=>by rw[z,hd]at e;cases e)];exact s13 _ _ e
 have hkd4:upd H3 d (.dK (putK kvs (Sum.inr g) (.ref l))) d=some (.dK (putK kvs (Sum.inr g) (.ref l))):=af;generalize (upd H3 d (.dK (putK kvs (Sum.inr g) (.ref l))))=H4 at t4 r4 s14 hkd4 ⊢;have hok1:=hok.put g (jS ag.1.pos b0) nn;have hB1:ShB 1801 (eF S g (cq (aG S g) (t,b))):=(hB.mono (by decide)).put g bm.1 (bm.2.mono (by decide));have ak:=hok1.at k;have bk:=hB1.at (by decide) k;have hl1:=lU S g (cq (aG S g) (t,b));have lk4:(putK kvs (Sum.inr g) (.ref l)).length=(eF S g (cq (aG S g) (t,b))).length:=Gi r4;generalize (putK kvs (Sum.inr g) (.ref l))=kvs4 at r4 hkd4 lk4;have hokS:=vn (k:=k) (f:=(t,b)) hok b0 (He t0') hlt';have hl2':=jW S g k (t,b);have hS2:iF S g k (t,b)=eF (eF S g (cq (aG S g) (t,b))) k (je (aG (eF S g (cq (aG S g) (t,b))) k) (t,b)):=rfl;generalize eF S g (cq (aG S g) (t,b))=S1 at r4 hok1 hB1 ak bk hl1 lk4 hS2;have hw4:=s14.tup hw;refine⟨_,rfl,d,rfl,.inl ⟨_,.inl hkd4⟩,_,rfl,lw,_,_,_,rfl,rfl,hw4,av (j:=6) rfl,aP rfl,fun l5 hl5=>?_⟩;have s5:=aw.upd (o:=.tup [.int 0,.int 1]) hl5;obtain⟨p5,ep5,hp5⟩:=zw (x:=k) (Paired.imp (fun _ _=>ShV.tk s5.tk) r4) (SqT.of (af (H:=H4) (a:=l5) (o:=.tup [.int 0,.int 1])));have hkd5:=s5 _ _ hkd4;have r5:=Paired.imp (fun _ _=>ShV.tk s5.tk) r4;have s15:=s14.trans s5;generalize (upd H4 l5 (.tup [.int 0,.int 1]))=H5 at s5 hp5 hkd5 r5 s15 ⊢;refine⟨_,jj.k (k:=Sum.inr k) hkd5,?_⟩;rw[ep5];have hw5:=s15.tup hw;have hy5:=s15.tup hpa;have k0:0<=(aG S1 k).1*b+t*(aG S1 k).2:=Int.add_nonneg (Int.mul_nonneg ak.2 (He b0)) (Int.mul_nonneg (He t0') (He ak.1.pos));refine⟨_,rfl,p5,_,_,_,rfl,rfl,hp5,av (j:=0) rfl,_,rfl,pa,_,_,_,rfl,rfl,hy5,av (j:=1) rfl,_,_,rfl,rfl,⟨B3 bk.1,B2 b2⟩,_,rfl,pa,_,_,_,rfl,rfl,hy5,av (j:=0) rfl,_,rfl,p5,_,_,_,rfl,rfl,hp5,av (j:=1) rfl,_,_,rfl,rfl,⟨B2 b1,B3 bk.2⟩,_,_,rfl,rfl,_,rfl,p5,_,_,_,rfl,rfl,hp5,av (j:=1) rfl,_,rfl,pa,_,_,_,rfl,rfl,hy5,av (j:=1) rfl,_,_,rfl,rfl,⟨B3 bk.2,B2 b2⟩,_,_,rfl,HJ ak.1.pos b0,k0,(bk.2.mul b2).mono (by decide),fun l6 hl6=>?_⟩;have s6:=aw.upd (o:=.tup [.int (frT ((aG S1 k).1*b+t*(aG S1 k).2) ((aG S1 k).2*b)),.int (frB ((aG S1 k).1*b+t*(aG S1 k).2) ((aG S1 k).2*b))]) hl6;have hl6':SqT K (upd H5 l6 (.tup [.int (frT ((aG S1 k).1*b+t*(aG S1 k).2) ((aG S1 k).2*b)),.int (frB ((aG S1 k).1*b+t*(aG S1 k).2) ((aG S1 k).2*b))])) l6 [.int (je (aG S1 k) (t,b)).1,.int (je (aG S1 k) (t,b)).2]:=SqT.of af;have hkd6:=s6 _ _ hkd5;have r6:=Paired.imp (fun _ _=>ShV.tk s6.tk) r5;have s16:=s15.trans s6;generalize (upd H5 l6 (.tup [.int (frT ((aG S1 k).1*b+t*(aG S1 k).2) ((aG S1 k).2*b)),.int (frB ((aG S1 k).1*b+t*(aG S1 k).2) ((aG S1 k).2*b))]))=H6 at s6 hkd6 r6 hl6' s16 ⊢;have hw6:=s16.tup hw;refine⟨_,rfl,_,rfl,lw,_,_,_,rfl,rfl,hw6,av (j:=6) rfl,d,_,rfl,qG.k (k:=Sum.inr k) hkd6 (aN (by omega)),?_⟩;have t7:=TK.dK (o:=.dK (putK kvs4 (Sum.inr k) (.ref l6))) hkd6;have r7:=Paired.imp (fun _ _=>ShV.tk t7) (ow (x:=k) hl6' r6);rw[show((je (aG S1 k) (t,b)).1,(je (aG S1 k) (t,b)).2)=je (aG S1 k) (t,b)from rfl,<-hS2]at r7;have s17:aw H (upd H6 d (.dK (putK kvs4 (Sum.inr k) (.ref l6)))):=fun c o e=>by rw[az (fun z=>by rw[z,hd]at e;cases e)];exact s16 _ _ e
 have hkd7:upd H6 d (.dK (putK kvs4 (Sum.inr k) (.ref l6))) d=some (.dK (putK kvs4 (Sum.inr k) (.ref l6))):=af;generalize (upd H6 d (.dK (putK kvs4 (Sum.inr k) (.ref l6))))=H9 at t7 r7 s17 hkd7 ⊢;generalize (putK kvs4 (Sum.inr k) (.ref l6))=kvs7 at r7 hkd7 ⊢;generalize iF S g k (t,b)=T at r7 hokS hl2' q hS2;clear hS2;refine⟨_,rfl,d,_,T.map (·.1),rfl,.inl hkd7,rN r7,by rw[FY];omega,fun l2 ss hl2 pm so=>?_⟩;have sl2:=aw.upd (o:=.lst (ss.map V.str)) hl2;have lss:ss.length<60:=by rw[pm.length_eq,FY];omega
 refine⟨l2,rfl,⟨_,SqL.of af⟩,fun D hD=>?_⟩;have hl4:upd H9 l2 (.lst (ss.map V.str)) l2=some (.lst (ss.map V.str)):=af;have hkd8:=sl2 _ _ hkd7;have r9:=Paired.imp (fun _ _=>ShV.tk sl2.tk) r7;generalize (upd H9 l2 (.lst (ss.map V.str)))=HA at sl2 hl4 hD r9 hkd8 ⊢;refine qq (K:=K) (a:=l2) (xs:=ss.map V.str) (fun i acc HB=>aw HA HB/\HB D=some (.lst acc)/\Paired (ShE K HB) acc (fh T (ss.take i))) ⟨aw.upd hD,af,.nil⟩ (fun i acc HB _ ⟨e,_⟩=>SqL.of (e _ _ hl4)) ?_ ?_
 ·rintro i y5 acc HB hi5 ⟨s5,hD5,pr⟩;refine fo ?_;intro kq1 kr1;obtain⟨x,hx,rfl⟩:∃x,ss[i]?=some x/\V.str x=y5:=by
   rw[Gn]at hi5;cases e:ss[i]? with
   |none=>rw[e]at hi5;cases hi5
   |some x=>rw[e]at hi5;exact⟨x,rfl,GB hi5⟩
  have hin:x∈T.map (·.1):=pm.mem_iff.mp (Gb hx);obtain⟨pA,hvA,hqA⟩:=EC r9 hin;have hqB:=s5.tup hqA;have dgB:jj HB d (.str x) (some (.ref pA)):=by rw[<-hvA];exact jj.k (k:=Sum.inr x) (s5 _ _ hkd8)
  refine⟨_,rfl,_,rfl,d,_,rfl,dgB,pA,_,_,_,rfl,rfl,hqB,(av (j:=0) rfl),_,_,rfl,rfl,_,rfl,?_⟩;have lacc:acc.length<sizeLine:=by rw[Gi pr];have:=rJ T (ss.take i);rw[G0]at this;exact aN (by omega)
  refine bj (fun h1=>?_) (fun h1=>?_)
  ·have h1':0<(aG T x).1:=Gu h1;refine⟨_,rfl,_,rfl,_,rfl,d,_,rfl,dgB,aP rfl,fun r1 hr1=>?_⟩;have sr:=aw.upd (o:=.tup [.str x,.ref pA]) hr1;refine⟨sr _ _ hD5,lacc,?_,af,?_⟩
   ·intro b5 o5 e5;rw[az (fun z=>by rw[z,hD]at e5;cases e5)];exact sr _ _ (s5 _ _ e5)
   ·rw[oV hx,F8 h1'];have tk2:=TK.lst (o:=.lst (acc++[.ref r1])) (sr _ _ hD5);exact Paired.app (Paired.imp (fun _ _ z=>(z.same sr).tk tk2) pr) (.cons (ShE.tk tk2 ⟨r1,pA,rfl,SqT.of af,sr.tup hqB⟩) .nil)
  ·have h1':¬0<(aG T x).1:=fun z=>h1 (Gp z);refine⟨s5,hD5,?_⟩;rw[oV hx,F6 h1',GF];exact pr
 ·rintro acc HB ⟨s5,hD5,pr⟩;rw[FY,GK]at pr;refine⟨D,_,rfl,.inl ⟨SqL.of hD5,fun l9 hl9=>?_⟩⟩;have sl:=aw.upd (o:=.tup acc) hl9;exact q l9 ss _ (s17.trans (sl2.trans (s5.trans sl))) pm so ⟨acc,SqT.of af,Paired.imp (fun _ _ z=>z.same sl) pr⟩
def jt(K:Frag):Sp:=fun vs H Q _=>∃(a:Addr)(ns:List Int)(j:Nat),vs=[.ref a,.int j]/\SqL K H a (ns.map V.int)/\j<=3/\∀(l:Addr)(ms:List Int) H',aw H H'->SqL K H' l (ms.map V.int)->Q (.ref l) H'
variable(fS:Df P w K mg base 2 "_law_shifted" ["_law_script","_law_j"] (jt K))
theorem pE:aD ["_law_script","_law_j"] ["_law_script","_law_j"] (aq (top 74)):=by trivial
include B aM in
theorem pX(T:Tx K mg "_law_shifted" (top 74) ["_law_script","_law_j"]):Df P w K mg base 2 "_law_shifted" ["_law_script","_law_j"] (jt K):=by
 refine T.df pE (by rintro _ _ _ _ ⟨a,ns,j,rfl,hS,hj,q⟩;rfl) ?_;rintro f _ A _ s H _ Q E hr ⟨a,ns,j,rfl,hS,hj,q⟩;refine⟨_,(ao (aH (bZ ["_law_k"] [("_law_script",0),("_law_j",1)] (gg _ ["_law_script","_law_j"]) rfl (by rfl) rfl (by trivial) (by trivial) (aW (by rfl)) (cR (by rfl)) (mC ⟨rfl,rfl⟩ (mC ⟨rfl,rfl⟩ mN)) (mC rfl (mC rfl mN)) (b6 (by decide)) (bU (by rfl) B.range (aa ae ah)) (fun _ _ _ _=>aR (i:=0) (show(["_law_k","_law_script","_law_j"]:List Str).Nodup by trivial) rfl (Or.inl rfl) (Or.inr rfl)) (fun _ _ _ _=>cC) (fun _ _ _ _=>(au aY (aE aM hr (aa (pv 1) (aa (pv 0) ah))) (au bX (au bX (au bX (pv 2) ae) (au aY (pv 0) ae)) (bL nu (by rfl) B.int boot_int (aa (bJ jG (pv 0) ae (aI _)) ah)))))))),?_⟩;refine⟨20,rfl,by decide,by decide,fun A hA=>?_⟩;refine mE (n:=20) (lo:=0) (fun i acc H2=>H2=upd H A (.lst acc)/\∃ms:List Int,acc=ms.map V.int/\ms.length=i) ⟨rfl,[],rfl,rfl⟩ ?_ ?_
 ·rintro i acc H2 hi ⟨rfl,ms,rfl,lm⟩;rw[show(0:Int)+(i:Int)=((i:Nat):Int) by omega];refine fo ?_;intro kq1 kr1;refine⟨_,rfl,_,rfl,a,ns,i,rfl,(aw.upd hA).seq hS,_,rfl,_,_,rfl,rfl,.inl ⟨by omega,by omega⟩,_,rfl,_,_,rfl,rfl,_,_,rfl,rfl,.inl ⟨by omega,by omega⟩,_,rfl,_,_,rfl,rfl,.inr ⟨_,rfl,?_⟩⟩;refine⟨_,_,rfl,rfl,.inr ⟨by split<;>decide,by split<;>decide⟩,_,_,rfl,rfl,af,?_,by rw[bq],ms++[_],by rw[Gk];rfl,by rw[Gd,lm];rfl⟩;rw[FY];exact aN (by omega)
 rintro acc H2 ⟨rfl,ms,rfl,lm⟩;exact q A ms _ (aw.upd hA) (SqL.of af)
def lG(K:Frag):Sp:=fun vs H Q _=>∃(z:Int)(v:V)(since:Int)(rs:List (List Key)),vs=[.int z,v,.int since]/\(v=.non\/∃p,PlE K H v p/\qB rs p.R)/\∀(n:Int) H',aw H H'->Q (.int n) H'
variable(ia:Df P w K mg base 2 "_law_since" ["_law_cell","_law_plot","_law_since_here"] (lG K))
theorem lM:aD ["_law_cell","_law_plot","_law_since_here","_law_some"] ["_law_cell","_law_plot","_law_since_here"] (aq (top 75)):=by trivial
include B aB bD in
theorem tM(T:Tx K mg "_law_since" (top 75) ["_law_cell","_law_plot","_law_since_here"]):Df P w K mg base 2 "_law_since" ["_law_cell","_law_plot","_law_since_here"] (lG K):=by
 refine T.df lM (by rintro _ _ _ _ ⟨z,v,since,rs,rfl,hv,q⟩;rfl) ?_;rintro f _ A _ s H _ Q E hr ⟨z,v,since,rs,rfl,hv,q⟩;refine aQ ?_;intro kX;refine ai 1 (ao (aH (pv 2))) ?_;intro kR1 pR1
 refine⟨_,(aj (aU ((ip (aJ jR (pv 1) dA (aI _)) (hV (aJ ck (aE aB hr (aa (pv 0) (aa ae (aa ae ah)))) ae (aI _)))).pt) (aj (oz (i:=3) lM.nd rfl (by trivial) ["_law_burden"] [] (gg _ []) rfl (by rfl) rfl (by trivial) (by trivial) (aW (by rfl)) (cR (by rfl)) mN mN (b6 (by decide)) (dE (aE bD hr (aa (pv 1) ah))) (fun _ _ _ _=>aR (i:=0) (show(["_law_burden"]:List Str).Nodup by trivial) rfl (Or.inl rfl) (Or.inr rfl)) (fun _ _ _ _=>iD (aJ ck (aC (fO (K:=K) rfl) (pv 0) ae (fun _ _=>rfl)) aS (aI _))) (fun _ _ _ _=>(aC (fO (K:=K) rfl) (pv 0) ae (fun _ _=>rfl))))
  (ao (aU (aJ jG (aT bG (by rfl) B.len Ht (aa (pv 3) ah)) ae (aI _)) (ao (aH (aC bO (pv 3) (aE aB hr (aa (pv 0) (aa ae (aa (aT bG (by rfl) B.len Ht (aa (pv 3) ah)) ah)))) (fun _ _=>rfl)))) aK))) aK) pR1),?_⟩
 rcases hv with rfl|⟨p,hp,hN⟩
 ·exact⟨_,rfl,rfl,_,rfl,fq (fq ⟨_,rfl,q _ _ (aw.refl _)⟩)⟩
 obtain⟨l0,ls0,lr0,rfl,_⟩:=id hp;refine⟨_,rfl,rfl,_,rfl,jh ?_⟩;refine⟨_,rfl,z,143,2,rfl,by decide,by decide,fun j hj=>⟨rfl,_,rfl,?_⟩⟩;refine bj (fun h1=>?_) (fun h1=>⟨_,rfl,q _ _ (aw.refl _)⟩);refine⟨_,rfl,_,p,rs,rfl,hp,hN,fun l ys T H1 s1 hl0 py hB=>?_⟩;have hl:=SqL.of (K:=K) hl0;have ly:=Gi py;have bT:∀r∈T,fE r:=fun r hr=>by obtain⟨c,hc,hr'⟩:=(hB.mem r).mp hr;obtain⟨q',hq',rfl⟩:=Ge.mp hc;exact hN.bur r (hN.sub q' hq' r hr')
 have lT:T.length<=59:=w4 hB (fun c' hc' r hr=>by
  obtain⟨q',hq',rfl⟩:=Ge.mp hc'
  exact hN.sub q' hq' r hr) hN.l59
 refine⟨l,rfl,⟨_,hl⟩,fun A hA=>?_⟩;have sA:∀o:HO,aw H1 (upd H1 A o):=fun o=>aw.upd hA;refine qq (K:=K) (a:=l) (xs:=ys) (fun i acc H2=>∃ns:List Int,H2=upd H1 A (.lst acc)/\acc=ns.map V.int/\ns.length<=i) ⟨[],rfl,rfl,F4 _⟩ (fun i acc H2 _ ⟨_,e,_⟩=>by rw[e];exact(sA _).seq hl) ?_ ?_
 ·rintro i y acc H2 hi ⟨ns,rfl,rfl,ln⟩;refine fo ?_;intro kq1 kr1;obtain⟨r,hr,bur⟩:=aX py hi;obtain⟨n,k,x,m,u,rfl⟩:=bT r (Gb hr);obtain⟨lay,ab,rfl,ha⟩:=bur;have i59:i<ys.length:=(Gr.mp hi).1;refine⟨_,rfl,ab,_,_,_,rfl,rfl,(sA _).tup ha,av (j:=1) rfl,rfl,_,rfl,?_⟩;refine bj (fun z=>?_) (fun z=>⟨ns,rfl,rfl,by omega⟩);exact⟨_,rfl,ab,_,_,_,rfl,rfl,(sA _).tup ha,av (j:=4) rfl,af,by rw[FY];exact aN (by omega),ns++[u],by rw[bq],by rw[Gk];rfl,by rw[Gd,G7];omega⟩
 rintro acc H2 ⟨ns,rfl,rfl,ln⟩;have s2:=s1.trans (sA (.lst (ns.map V.int)));have hA2:(upd H1 A (.lst (ns.map V.int))) A=some (.lst (ns.map V.int)):=af;generalize (upd H1 A (.lst (ns.map V.int)))=H2 at s2 hA2 ⊢;refine⟨_,rfl,A,_,rfl,.inl (SqL.of hA2),_,_,rfl,rfl,_,rfl,?_⟩;refine bj (fun h2=>?_) (fun h2=>⟨_,rfl,q _ _ s2⟩);have pos:0<(ns.map V.int).length:=by have:=Gu h2;omega
 refine⟨_,rfl,_,rfl,_,rfl,A,_,rfl,.inl (SqL.of hA2),z,144,(ns.map V.int).length,rfl,pos,by decide,fun k hk=>?_⟩;have hk':k<ns.length:=by rw[FY]at hk;exact hk
 exact⟨A,_,_,_,rfl,rfl,SqL.of hA2,av (by rw[Gn,Gh hk'];rfl),q _ _ s2⟩
def nK(K:Frag)(mg:Str->Option Value):Sp:=fun vs H Q E=>∃(l:Addr)(xs:List V)(gs:List Nat)(c:Nat),vs=[.ref l,.int c]/\SqL K H l xs/\Paired (HdE K H) xs gs/\c<=64/\(cS xs gs c≠ .non->Q (cS xs gs c) H)/\(cS xs gs c=.non->∀dx H',aw H H'->H' dx=some (XD dx [("who",.str (Str.ofString "")),("word",.str (Str.ofString "waste"))])->E (kf mg "Falls") (some dx) H')
variable(iW:DfN P w K mg base 3 "ask_plot" ["plots","cell"] (nK K mg))
theorem nP:aD ["plots","cell","plot"] ["plots","cell"] (aq (top 14)):=by trivial
include B jZ dO cA cB in
theorem vb(T:Tx K mg "ask_plot" (top 14) ["plots","cell"]):DfN P w K mg base 3 "ask_plot" ["plots","cell"] (nK K mg):=by
 refine T.dfN nP (by rintro _ _ _ _ ⟨l,xs,gs,c,rfl,hl,pr,hc,q,e⟩;rfl) ?_;rintro f _ A _ s H _ Q E hr ⟨l,xs,gs,c,rfl,hl,pr,hc,q,e⟩;refine aQ ?_;intro kX;refine ai 2 (ao (aH (pv 2))) ?_;intro kR2 pR2;refine ai 1 (aj (aU (aJ mU (pv 2) dA (aI _)) (ao (mO (W:=RzW H E) rfl (wo dO.df hr (aa aS (aa aS (aa aS ah)))) (fun _ _ _ _ _ _ _ I hx ee=>sJ I hx ee.1 ee.2))) aK) pR2) ?_;intro kR1 pR1;refine⟨_,(aj (aA (i:=2) nP.nd rfl (by trivial) (aE jZ hr (aa (pv 0) (aa (pv 1) ah)))) pR1),?_⟩;refine⟨_,rfl,_,rfl,l,xs,gs,c,rfl,.inl hl,pr,hc,?_⟩;refine⟨_,rfl,rfl,_,rfl,?_⟩;refine bj (fun h2=>?_) (fun h2=>?_)
 ·exact⟨aP rfl,oJ cA cB (aw.refl _) (e (Gu h2))⟩
 ·exact⟨_,rfl,q fun z=>h2 (Gp z)⟩
def kr(K:Frag)(mg:Str->Option Value):Sp:=fun vs H Q E=>∃(a C dx sg l:Addr)(fs:List (Str×V))(ss xs:List Str),vs=[.ref a,.ref l]/\H a=some (.ins C dx fs)/\x4 K mg C/\fs.lookup ("wanting":Str)=none/\fs.lookup ("signed":Str)=some (.ref sg)/\SqT K H sg (SV ss)/\SqL K H l (SV xs)/\(∀x∈ss,PyData.canLay0 (.str x)=true)/\(∀x∈xs,PyData.canLay0 (.str x)=true)/\(ft ss xs=none->Q .non H)/\(∀x,ft ss xs=some x->∀dx H',aw H H'->H' dx=some (XD dx [("who",.str x),("word",.str (Str.ofString "sign"))])->E (kf mg "Falls") (some dx) H')
variable(gu:DfN P w K mg base 3 "ask_signed" ["paper","names"] (kr K mg))
theorem ky:aD ["paper","names","who"] ["paper","names"] (aq (top 15)):=by trivial
include B eZ dO cW cA cB in
theorem rj(T:Tx K mg "ask_signed" (top 15) ["paper","names"]):DfN P w K mg base 3 "ask_signed" ["paper","names"] (kr K mg):=by
 refine T.dfN ky (by rintro _ _ _ _ ⟨a,C,dx,sg,l,fs,ss,xs,rfl,ha,PC,hw,hf,hs,hl,lss,lxs,q,e⟩;rfl) ?_;rintro f _ A _ s H _ Q E hr ⟨a,C,dx,sg,l,fs,ss,xs,rfl,ha,PC,hw,hf,hs,hl,lss,lxs,q,e⟩;refine aQ ?_;intro kX;refine ai 1 (ao (aU (aJ jR (pv 2) dA (aI _)) (ao (mO (W:=RzW H E) rfl (wo dO.df hr (aa aS (aa aS (aa (pv 2) ah)))) (fun _ _ _ _ _ _ _ I hx ee=>sJ I hx ee.1 ee.2))) aK)) ?_;intro kR1 pR1;refine⟨_,(aj (aA (i:=2) ky.nd rfl (by trivial) (jD (CX:=CX0) (E:=E0) (dvs:=[]) (ds:=[]) ["self","names"] 1 (pv 0) (hr.mono (by decide)) .nil nQ (aa (pv 1) ah))) pR1),?_⟩;obtain⟨CP,mP,eP⟩:=PC.want;have eC:CP=bW:=by have:=cW.mg;rw[mP]at this;cases this;rfl
 subst eC;refine⟨_,rfl,a,C,dx,fs,_,rfl,ha,PC.cls,eZ.under eP,hw,_,rfl,a,C,dx,sg,l,fs,ss,xs,rfl,ha,PC,hf,hs,hl,lss,lxs,?_⟩;refine⟨_,rfl,rfl,_,rfl,?_⟩;cases hx:ft ss xs with
 |none=>exact fq (q hx)
 |some x=>exact jh ⟨_,rfl,aP rfl,oJ cA cB (aw.refl _) (e x hx)⟩
def xo(K:Frag):Sp:=fun vs H Q _=>∃(x y:Addr)(t b u c:Int),vs=[.ref x,.ref y]/\SqT K H x [.int t,.int b]/\SqT K H y [.int u,.int c]/\(0<b/\0<c)/\(Bd 2000 t/\Bd 2000 b/\Bd 2000 u/\Bd 2000 c)/\∀l H',aw H H'->H' l=some (.tup [.int (frT (t*c+u*b) (b*c)),.int (frB (t*c+u*b) (b*c))])->Q (.ref l) H'
variable(uh:Df P w K mg base 3 "plus" ["one","other"] (xo K))
theorem Bt:aD ["one","other"] ["one","other"] (aq (top 20)):=by trivial
include B bE in
theorem BO(T:Tx K mg "plus" (top 20) ["one","other"]):Df P w K mg base 3 "plus" ["one","other"] (xo K):=by refine T.df Bt (by rintro _ _ _ _ ⟨x,y,t,b,u,c,rfl,hx,hy,⟨hb,hc⟩,⟨t1,t2,t3,t4⟩,q⟩;rfl) ?_;rintro f _ A _ s H _ Q E hr ⟨x,y,t,b,u,c,rfl,hx,hy,⟨hb,hc⟩,⟨t1,t2,t3,t4⟩,q⟩;refine⟨_,(ao (aH (aE bE hr (aa (au aY (au cH (aC aF (pv 0) ae (fun _ _=>rfl)) (aC aF (pv 1) ae (fun _ _=>rfl))) (au cH (aC aF (pv 1) ae (fun _ _=>rfl)) (aC aF (pv 0) ae (fun _ _=>rfl)))) (aa (au cH (aC aF (pv 0) ae (fun _ _=>rfl)) (aC aF (pv 1) ae (fun _ _=>rfl))) ah))))),?_⟩;have B20:∀{z:Int},Bd 2000 z->Bd 20000 z:=fun h=>h.mono (by decide);have hbc:0<b*c:=HJ hb hc;have bdb:Bd 4000 (b*c):=t2.mul t4;refine⟨_,rfl,x,_,_,_,rfl,rfl,hx,(av (j:=0) rfl),_,rfl,y,_,_,_,rfl,rfl,hy,(av (j:=1) rfl),_,_,rfl,rfl,⟨B20 t1,B20 t4⟩,_,rfl,y,_,_,_,rfl,rfl,hy,(av (j:=0) rfl),_,rfl,x,_,_,_,rfl,rfl,hx,(av (j:=1) rfl),_,_,rfl,rfl,⟨B20 t3,B20 t2⟩,_,_,rfl,rfl,_,rfl,x,_,_,_,rfl,rfl,hx,(av (j:=1) rfl),_,rfl,y,_,_,_,rfl,rfl,hy,(av (j:=1) rfl),_,_,rfl,rfl,⟨B20 t2,B20 t4⟩,_,_,rfl,by omega,bdb.mono (by decide),fun l p r hp hl=>?_⟩;obtain⟨rfl,rfl⟩:=hp.fr hbc;exact q l _ (aw.upd hl) af
def uG(K:Frag):Sp:=fun vs H Q _=>∃(x y:Addr)(t b u c:Int),vs=[.ref x,.ref y]/\SqT K H x [.int t,.int b]/\SqT K H y [.int u,.int c]/\(0<b/\0<c)/\(Bd 2000 t/\Bd 2000 b/\Bd 2000 u/\Bd 2000 c)/\∀l H',aw H H'->H' l=some (.tup [.int (frT (t*c-u*b) (b*c)),.int (frB (t*c-u*b) (b*c))])->Q (.ref l) H'
variable(oM:Df P w K mg base 3 "minus" ["one","other"] (uG K))
theorem zz:aD ["one","other"] ["one","other"] (aq (top 21)):=by trivial
include B bE in
theorem Ae(T:Tx K mg "minus" (top 21) ["one","other"]):Df P w K mg base 3 "minus" ["one","other"] (uG K):=by refine T.df zz (by rintro _ _ _ _ ⟨x,y,t,b,u,c,rfl,hx,hy,⟨hb,hc⟩,⟨t1,t2,t3,t4⟩,q⟩;rfl) ?_;rintro f _ A _ s H _ Q E hr ⟨x,y,t,b,u,c,rfl,hx,hy,⟨hb,hc⟩,⟨t1,t2,t3,t4⟩,q⟩;refine⟨_,(ao (aH (aE bE hr (aa (au dB (au cH (aC aF (pv 0) ae (fun _ _=>rfl)) (aC aF (pv 1) ae (fun _ _=>rfl))) (au cH (aC aF (pv 1) ae (fun _ _=>rfl)) (aC aF (pv 0) ae (fun _ _=>rfl)))) (aa (au cH (aC aF (pv 0) ae (fun _ _=>rfl)) (aC aF (pv 1) ae (fun _ _=>rfl))) ah))))),?_⟩;have B20:∀{z:Int},Bd 2000 z->Bd 20000 z:=fun h=>h.mono (by decide);have hbc:0<b*c:=HJ hb hc;have bdb:Bd 4000 (b*c):=t2.mul t4;refine⟨_,rfl,x,_,_,_,rfl,rfl,hx,(av (j:=0) rfl),_,rfl,y,_,_,_,rfl,rfl,hy,(av (j:=1) rfl),_,_,rfl,rfl,⟨B20 t1,B20 t4⟩,_,rfl,y,_,_,_,rfl,rfl,hy,(av (j:=0) rfl),_,rfl,x,_,_,_,rfl,rfl,hx,(av (j:=1) rfl),_,_,rfl,rfl,⟨B20 t3,B20 t2⟩,_,_,rfl,rfl,_,rfl,x,_,_,_,rfl,rfl,hx,(av (j:=1) rfl),_,rfl,y,_,_,_,rfl,rfl,hy,(av (j:=1) rfl),_,_,rfl,rfl,⟨B20 t2,B20 t4⟩,_,_,rfl,by omega,bdb.mono (by decide),fun l p r hp hl=>?_⟩;obtain⟨rfl,rfl⟩:=hp.fr hbc;exact q l _ (aw.upd hl) af
def iA(K:Frag)(mg:Str->Option Value):Sp:=fun vs H Q _=>∃(a C dx sg pa:Addr)(num since:Int)(G:gZ)(tr:V)(v:V)(p:Plt)(rs:List (List Key)),vs=[.ref a,v]/\H a=some (.ins C dx (om num since sg pa G tr))/\vT K mg C/\PlE K H v p/\qB rs p.R/\∀l ys T H',aw H H'->H' l=some (.lst ys)->Paired (eQ K H') ys (T.filter (nv since G.tk))->(∀r∈T,fE r)->T.length<=59->mF (p.R.map (·.2)) T->Q (.ref l) H'
variable(e8:DfT P w K mg base CX0 3 aL "agreeing" ["self","plot"] (iA K mg) [])
theorem mL:aD ["self","plot"] ["self","plot"] (aq eU):=by trivial
include B gB cI bI in
theorem mZ(T:TxM K aL "agreeing" "Give.agreeing" eU ["self","plot"] []):DfT P w K mg base CX0 3 aL "agreeing" ["self","plot"] (iA K mg) []:=by
 refine T.df mL (by rintro _ _ _ _ ⟨a,C,dx,sg,pa,num,since,G,tr,v,p,rs,rfl,ha,D,hp,hN,q⟩;rfl) ?_;rintro f _ A _ s H _ Q E hr ⟨a,C,dx,sg,pa,num,since,G,tr,v,p,rs,rfl,ha,D,hp,hN,q⟩;refine⟨_,(ao (aH (bZ ["burden"] [("self",0)] (gg _ ["self"]) rfl (by rfl) rfl (by trivial) (by trivial) (aW (by rfl)) (cR (by rfl)) (mC ⟨rfl,rfl⟩ mN) (mC rfl mN) (b6 (by decide)) (iq (aE gB hr (aa (aC aF (pv 1) ae (fun _ _=>rfl)) ah))) (fun _ _ _ _=>aR (i:=0) (show(["burden","self"]:List Str).Nodup by trivial) rfl (Or.inl rfl) (Or.inr rfl)) (fun _ _ _ _=>iD (dP (uV (CX:=CX0) (E:=E0) (dvs:=[]) (ds:=[]) (P:=P) (w:=w) (K:=K) (mg:=mg) (base:=base) rfl rfl rfl rfl rfl ["self","burden"] 1 (pv 1) (hr.mono (by decide)) .nil nQ (aa (pv 0) ah)))) (fun _ _ _ _=>(pv 0))))),?_⟩;obtain rfl:C=aL:=eD.uniq ⟨D.mgG⟩ bI;obtain⟨l,ls,lr,rfl,p1,p2,p3⟩:=hp;refine⟨_,rfl,l,_,_,_,rfl,rfl,p1,av (j:=2) rfl,lr,p.R,rs,rfl,p3,(by have:=hN.len;omega),hN.sub,hN.l59,hN.bur,hN.nd,fun b T H1 s1 hB hc=>?_⟩;obtain⟨xs,hx,pr⟩:=hc.bur;have lx:=Gi pr;have bT:∀r∈T,fE r:=fun r hr=>by obtain⟨c,hc,hr'⟩:=(hB.mem r).mp hr;obtain⟨q',hq',rfl⟩:=Ge.mp hc;exact hN.bur r (hN.sub q' hq' r hr')
 have lT:T.length<=59:=w4 hB (fun c' hc' r hr=>by
  obtain⟨q',hq',rfl⟩:=Ge.mp hc'
  exact hN.sub q' hq' r hr) hN.l59
 replace ha:=s1 _ _ ha;refine⟨b,rfl,⟨_,hx⟩,fun A hA=>?_⟩;have sA:∀o:HO,aw H1 (upd H1 A o):=fun o=>aw.upd hA;refine xW (K:=K) (a:=b) (xs:=xs) (fun i acc H2=>H2=upd H1 A (.lst acc)/\Paired (eQ K H1) acc ((T.take i).filter (nv since G.tk))) ⟨rfl,.nil⟩ (fun i acc H2 _ ⟨e,_⟩=>by rw[e];exact(sA _).tup hx) ?_ ?_
 ·rintro i y acc H2 hi ⟨rfl,pq⟩;refine fo ?_;intro kq1 kr1;obtain⟨r,hr,bur⟩:=aX pr hi;have tk1:T.take (i+1)=T.take i++[r]:=by rw[GI,hr];rfl
  have i59:i<xs.length:=(Gr.mp hi).1;refine⟨_,rfl,a,C,dx,_,_,rfl,(sA _) _ _ ha,D.pap.cls,cI,rfl,_,rfl,a,C,dx,sg,pa,num,since,G,tr,y,r,rfl,(sA _) _ _ ha,D,bur.tk (sA _).tk,bT r (Gb hr),_,rfl,?_⟩;refine bj (fun z=>?_) (fun z=>?_)
  ·refine⟨_,rfl,af,?_,by rw[bq],?_⟩
   ·have l1:=Gi pq;have l2:((T.take i).filter (nv since G.tk)).length<=i:=GA (Hk _ _) (by rw[G0];omega);exact aN (by omega)
   ·rw[tk1,Ho,List.filter_cons_of_pos z];exact Paired.app pq (.cons bur .nil)
  ·refine⟨rfl,?_⟩;rw[tk1,Ho,List.filter_cons_of_neg z];simpa using pq
 rintro acc H2 ⟨rfl,pq⟩;rw[lx,GK]at pq;exact q A acc T _ (s1.trans (sA _)) af (Paired.imp (fun _ _ y=>eQ.tk (sA _).tk y) pq) bT lT hB
def kh(K:Frag):Sp:=fun vs H Q _=>∃(w h c:Nat),vs=[.int w,.int h,.int c]/\(0<w/\w<=8/\h<=8)/\c<2^(w*h)/\∀l ps H',H l=none->aw H H'->H' l=some (.lst (NV ps))->iN w h c ps->Q (.ref l) H'
variable(fz:Df P w K mg base 3 "_law_pieces" ["_law_wide","_law_high","_law_ground"] (kh K))
theorem dj:aD ["_law_wide","_law_high","_law_ground","_law_found","_law_rest","_law_k","_law_one"] ["_law_wide","_law_high","_law_ground"] (aq (top 48)):=by trivial
include B bo ie in
theorem qY(T:Tx K mg "_law_pieces" (top 48) ["_law_wide","_law_high","_law_ground"]):Df P w K mg base 3 "_law_pieces" ["_law_wide","_law_high","_law_ground"] (kh K):=by
 refine T.df dj (by rintro _ _ _ _ ⟨w,h,c,rfl,⟨hw,hw8,hh8⟩,hc,q⟩;rfl) ?_;rintro f _ A _ s H _ Q E hr ⟨w,h,c,rfl,⟨hw,hw8,hh8⟩,hc,q⟩;refine aQ ?_;intro kX;refine ai 3 (ao (aH (pv 3))) ?_;intro kR3 pR3;refine ai 2 (aj (dz GH rfl (bU (by rfl) B.range (aa (au bX (pv 0) (pv 1)) ah)) (aR (i:=5) dj.nd rfl (by trivial)) (ao (aU (dP (aE bo hr (aa (pv 4) (aa (pv 5) ah)))) (aj (aA (i:=6) dj.nd rfl (by trivial) (aE ie hr (aa (pv 0) (aa (pv 1) (aa (pv 2) (aa (pv 5) ah)))))) (aj (cZ (kA GL G2 G1 dy (pv 3) (aa (pv 6) ah))) (ao (aA (i:=4) dj.nd rfl (by trivial) (au dB (pv 4) (pv 6)))))) aK))) pR3) ?_;intro kR2 pR2;refine ai 1 (aj (aA (i:=4) dj.nd rfl (by trivial) (pv 2)) pR2) ?_;intro kR1 pR1;refine⟨_,(aj (aA (i:=3) dj.nd rfl (by trivial) (cM ah)) pR1),?_⟩;have hwh:w*h<=64:=Nat.mul_le_mul hw8 hh8;have p64:2^(w*h)<=2^64:=GY (by decide) hwh;have hc64:c<2^64:=F5 hc p64;have e1:((w:Int)*(h:Int))=((w*h:Nat):Int):=by simp
 have e2:(((w:Int)*(h:Int))).toNat=w*h:=by rw[e1,Hb]
 refine⟨GO _,fun l hl=>?_⟩;have s0:=aw.upd (o:=.lst []) hl;refine⟨_,rfl,_,rfl,_,rfl,_,_,rfl,rfl,.inl ⟨by omega,by omega⟩,_,rfl,by omega,by omega,?_⟩;rw[e2];refine iH (lo:=0) (n:=w*h)
  (fun i σ H2=>∃(r:Nat)(xs:List Nat)(o5 o6:Option V),σ=[some (.int w),some (.int h),some (.int c),some (.ref l),some (.int r),o5,o6]/\SX l (upd H l (.lst [])) H2/\H2 l=some (.lst (NV xs))/\xs.length<=i/\r<2^(w*h)/\g5 w h c r/\Sub r c/\(∀j,j<i->r.testBit j=false)/\∀ps,iN w h r ps->iN w h c (xs++ps))
  ⟨c,[],none,none,rfl,SX.refl _ _,af,F4 _,hc,fun _ _ _ _ e=>e,fun _ e=>e,fun j hj=>by omega,fun _ z=>z⟩ ?_ ?_
 ·rintro i σ H2 hi ⟨r,xs,o5,o6,rfl,s2,hl2,hxl,hr',hcl,hs,hlow,hx⟩;rw[show(0:Int)+(i:Int)=((i:Nat):Int) by omega];refine fm ?_;intro kD1;refine⟨_,rfl,_,rfl,r,i,rfl,by omega,_,rfl,?_⟩;refine bj (fun hb=>?_) (fun hb=>?_)
  ·have hr64:r<2^64:=F5 hr' p64;have hr0:r≠0:=fun z=>by rw[z]at hb;simp at hb
   have eL:dS r=i:=jU (by omega) hb hlow;refine⟨_,rfl,_,rfl,_,rfl,_,rfl,w,h,c,i,rfl,⟨hw,hw8,hh8⟩,hc,hs i hb,fun p H3 hp s3=>?_⟩;have hpr:=hp.to_closed hcl hs hb;have hpr':cU w h r (dS r) p:=(by rw[eL];exact hpr);obtain⟨q1,q2,q3⟩:=qo hr64 hr0 hpr';have hl3:=s3 _ _ hl2;refine⟨_,rfl,.inl ⟨rfl,_,SqL.of hl3⟩,_,rfl,l,_,_,rfl,rfl,hl3,?_,?_⟩
   ·exact aN (by rw[FY];omega)
   refine⟨_,rfl,_,rfl,_,_,rfl,rfl,?_⟩;have es:(r:Int)-(p:Int)=((dif r p:Nat):Int):=by have:=Cm (r:=r) (p:=p) fun j hj=>hpr.sub hj;omega
   refine⟨dif r p,xs++[p],_,_,(by simp only[es];rfl),s2.trans ((SX.of s3).trans SX.set),(by rw[af,jb];rfl),(by rw[Gd,G7];omega),qm hr',qt hw hc hcl hs hp,xl hs,fun j hj=>?_,fun ps z=>?_⟩
   ·rw[hZ];rcases Nat.lt_or_ge j i with z|z
    ·rw[hlow j z];rfl
    ·have:j=i:=(by omega);subst this;rw[eL]at q3;rw[q3];simp
   ·rw[List.append_assoc];exact hx _ (.cons hr0 hpr' z)
  ·refine⟨r,xs,some (.int i),o6,rfl,s2,hl2,by omega,hr',hcl,hs,fun j hj=>?_,hx⟩;rcases Nat.lt_or_ge j i with z|z
   ·exact hlow j z
   ·have:j=i:=(by omega);subst this;simpa using hb
 ·rintro σ H2 ⟨r,xs,o5,o6,rfl,s2,hl2,hxl,hr',hcl,hs,hlow,hx⟩;have hr0:r=0:=Cz fun j=>by
   constructor
   ·intro z;rw[hlow j (gh hr' z)]at z;cases z
   ·intro z;simp at z
  subst hr0;have:=hx [] .nil;rw[GF]at this;exact⟨_,rfl,q l xs H2 hl (SX.same hl s0 s2) hl2 this⟩
def gO(K:Frag):Sp:=fun vs H Q _=>∃(k:Nat)(c w:Int),vs=[.int k,.int c,.int w]/\k<=12/\∀l r H',aw H H'->H' l=some (.tup (r.map kV))->(∀x∈r,wK x=true)->fE r->bh r=p7 (k:Nat) c->Q (.ref l) H'
variable(dN:Df P w K mg base 3 "_law_make_burden" ["_law_k","_law_cell","_law_way"] (gO K))
theorem cg:aD ["_law_k","_law_cell","_law_way","_law_kind","_law_until","_law_holder"] ["_law_k","_law_cell","_law_way"] (aq (top 55)):=by trivial
include B bM aB fg bC in
theorem kR(T:Tx K mg "_law_make_burden" (top 55) ["_law_k","_law_cell","_law_way"]):Df P w K mg base 3 "_law_make_burden" ["_law_k","_law_cell","_law_way"] (gO K):=by
 refine T.df cg (by rintro _ _ _ _ ⟨k,c,w,rfl,hk,q⟩;rfl) ?_;rintro f _ A _ s H _ Q E hr ⟨k,c,w,rfl,hk,q⟩;refine aQ ?_;intro kX;refine ai 4 (ao (aH (bp (aa (aE bC hr (aa (pv 0) (aa (pv 1) ah))) (aa (pv 3) (aa (pv 5) (aa (au bf (au bX (pv 1) (au aY (pv 0) ae)) (au aY (au gc ae ae) ae)) (aa (pv 4) ah)))))))) ?_;intro kR4 pR4;refine ai 3 (aj (aA (i:=5) cg.nd rfl (by trivial) (aE bM hr (aa (aE aB hr (aa (pv 1) (aa (au aY ae (au bX ae (pv 0))) (aa ae ah)))) (aa (pv 2) ah)))) pR4) ?_;intro kR3 pR3;refine ai 2 (aZ (aU (aJ ck (pv 3) aS (aI _)) (ao (aA (i:=4) cg.nd rfl (by trivial) (aE fg hr (aa (pv 1) (aa (au aY ae (au bX ae (pv 0))) (aa (pv 2) ah)))))) aK) pR3) ?_;intro kR2 pR2;refine ai 1 (aj (aA (i:=4) cg.nd rfl (by trivial) ae) pR2) ?_;intro kR1 pR1;refine⟨_,(aj (aA (i:=3) cg.nd rfl (by trivial) (aC bO (cM (aa aS (aa aS (aa aS (aa aS ah))))) (aE aB hr (aa (pv 1) (aa (au aY ae (au bX ae (pv 0))) (aa ae ah)))) (fun _ _=>rfl))) pR1),?_⟩;refine⟨aP rfl,fun l hl=>?_⟩;have s1:=aw.upd (o:=.lst [V.str (Str.ofString "debt"),V.str (Str.ofString "way"),V.str (Str.ofString "buy"),V.str (Str.ofString "note")]) hl;refine⟨_,rfl,_,rfl,_,_,rfl,rfl,.inl ⟨by decide,by decide⟩,_,_,rfl,rfl,c,50+3*k,4,rfl,by decide,by omega,fun j hj=>?_⟩;obtain⟨vk,mk,hk'⟩:=Ea (xs:=[V.str (Str.ofString "debt"),V.str (Str.ofString "way"),V.str (Str.ofString "buy"),V.str (Str.ofString "note")]) (i:=(j:Nat)) (by omega) (by show(j:Int)<4;omega);obtain⟨kd,rfl,k0⟩:∃kd,vk=.str kd/\PyData.canLay0 (.str kd)=true:=by
  simp only[Gg,List.not_mem_nil,or_false]at mk;rcases mk with rfl|rfl|rfl|rfl
  ·exact⟨_,rfl,by decide+kernel⟩
  ·exact⟨_,rfl,by decide+kernel⟩
  ·exact⟨_,rfl,by decide+kernel⟩
  ·exact⟨_,rfl,by decide+kernel⟩
 refine⟨l,_,_,_,rfl,rfl,SqL.of af,hk',?_⟩;generalize (upd H l (.lst [V.str (Str.ofString "debt"),V.str (Str.ofString "way"),V.str (Str.ofString "buy"),V.str (Str.ofString "note")]))=H1 at s1 ⊢;refine⟨fun σ' H'=>∃n:Int,σ'=[some (.int (k:Nat)),some (.int c),some (.int w),some (.str kd),some (.int n),none]/\aw H H',?_,?_⟩
 ·refine eJ ?_;intro kD1;refine⟨_,rfl,rfl,_,rfl,?_⟩;refine bj (fun h1=>?_) (fun h1=>⟨0,rfl,s1⟩);refine⟨_,rfl,_,rfl,_,_,rfl,rfl,.inl ⟨by decide,by decide⟩,_,_,rfl,rfl,_,rfl,c,w,51+3*k,rfl,by omega,fun n H2 s2 _=>⟨n,rfl,s1.trans s2⟩⟩
 rintro σ' H2 ⟨u,rfl,s2⟩;refine⟨_,rfl,_,rfl,_,_,rfl,rfl,.inl ⟨by decide,by decide⟩,_,_,rfl,rfl,c,52+3*k,6,rfl,by decide,by omega,fun j hj=>?_⟩;refine⟨_,rfl,j,w,rfl,hj,?_⟩;have m0:=GP (c*((k:Int)+1)) (show((10:Int)^(12:Int).toNat+1)≠0 by decide);refine⟨_,rfl,_,rfl,(k:Int),c,rfl,⟨by omega,by omega⟩,fun H3 s3=>?_⟩;obtain⟨n,en⟩:∃n,n=p7 (k:Nat) c:=⟨_,rfl⟩;rw[<-en];refine⟨_,rfl,_,rfl,_,rfl,_,rfl,_,_,rfl,rfl,_,_,rfl,rfl,.inr ⟨by omega,by omega⟩,_,_,rfl,rfl,⟨by decide,by decide,by decide⟩,_,_,rfl,rfl,_,_,rfl,rfl,(by show(0:Int)<_;decide),_,rfl,aP rfl,fun l4 hl4=>?_⟩;have s4:=aw.upd (o:=.tup [V.int n,V.str kd,V.str (c5 w j),V.int (c*((k:Int)+1) % ((10:Int)^(12:Int).toNat+1)),V.int u]) hl4;refine q l4 [.inl n,.inr kd,.inr (c5 w j),.inl (c*((k:Int)+1) % ((10:Int)^(12:Int).toNat+1)),.inl u] _ (s2.trans (s3.trans s4)) af (fun x hx=>?_) ⟨_,_,_,_,_,rfl⟩ en;simp only[Gg,List.not_mem_nil,or_false]at hx;rcases hx with rfl|rfl|rfl|rfl|rfl
 ·rfl
 ·exact k0
 ·exact(tR hj).1.lay
 ·rfl
 ·rfl
def iw(K:Frag):Sp:=fun vs H Q _=>∃(m:Nat)(z w last:Int)(b:Addr)(ws:List V)(rs:List (List Key)),vs=[.int m,.int z,.ref b,.int w,.int last]/\m<2^64/\SqL K H b ws/\Paired (eQ K H) ws rs/\rs.length=13/\∀v p H',aw H H'->PlF K H' v p->xa ((List.range 6).map (c5 w)) rs p->((rs.map bh).Nodup->∀q∈p.R,(q.2.map bh).Nodup)->p.R.length<=2->p.g=m->p.last=last->Q v H'
variable(eX:Df P w K mg base 3 "_law_make_plot" ["_law_cells","_law_cell","_law_pool","_law_way","_law_last"] (iw K))
theorem b9:aD ["_law_cells","_law_cell","_law_pool","_law_way","_law_last","_law_one","_law_other","_law_mask","_law_columns","_law_k"] ["_law_cells","_law_cell","_law_pool","_law_way","_law_last"] (aq (top 58)):=by trivial
include B cE c8 bo dJ dH aB in
theorem mW(T:Tx K mg "_law_make_plot" (top 58) ["_law_cells","_law_cell","_law_pool","_law_way","_law_last"]):Df P w K mg base 3 "_law_make_plot" ["_law_cells","_law_cell","_law_pool","_law_way","_law_last"] (iw K):=by
 refine T.df b9 (by rintro _ _ _ _ ⟨m,z,w,last,b,ws,rs,rfl,hm,hb,pr,l13,q⟩;rfl) ?_;rintro f _ A _ s H _ Q E hr ⟨m,z,w,last,b,ws,rs,rfl,hm,hb,pr,l13,q⟩;have hu:=hr.units;refine aQ ?_;intro kX;refine ai 5 (ao (aH (bp (aa (pv 0) (aa (aE dJ hr (aa (pv 1) (aa (pv 3) ah))) (aa (aE dH hr (aa (pv 8) ah)) (aa (pv 4) ah))))))) ?_;intro kR5 pR5;refine ai 4 (aj (dz GH rfl (bU (by rfl) B.range (aa ae ah)) (aR (i:=9) b9.nd rfl (by trivial)) (ao (aU (dP (aE bo hr (aa (pv 0) (aa (pv 9) ah)))) (ao (iS (fC hr) (pv 8) (pv 9) (aC bO (cM (aa (pv 5) (aa (pv 6) ah))) (bL nu (by rfl) B.int boot_int (aa (aE bo hr (aa (pv 7) (aa (pv 9) ah))) ah)) (fun _ _=>rfl)) rfl)) aK))) pR5) ?_;intro kR4 pR4;refine ai 3 (aj (aA (i:=8) b9.nd rfl (by trivial) pO) pR4) ?_;intro kR3 pR3;refine ai 2 (aj (aA (i:=7) b9.nd rfl (by trivial) (au bX (aE c8 hr (aa (au bV (pv 1) ae) ah)) (bL nu (by rfl) B.int boot_int (aa (bJ jG (aE aB hr (aa (pv 1) (aa ae (aa ae ah)))) ae (aI _)) ah)))) pR3) ?_;intro kR2 pR2;refine ai 1 (aj (aA (i:=6) b9.nd rfl (by trivial) (aE cE hr (aa (au aY (au bV (pv 1) ae) ae) (aa (pv 2) ah)))) pR2) ?_;intro kR1 pR1;refine⟨_,(aj (aA (i:=5) b9.nd rfl (by trivial) (aE cE hr (aa (pv 1) (aa (pv 2) ah)))) pR1),?_⟩;refine⟨_,rfl,_,rfl,z,b,ws,rs,rfl,hb,pr,l13,fun l1 C1 H1 s1 hc1 cl1 cs1 nd1=>?_⟩;refine⟨_,rfl,_,_,rfl,rfl,⟨by decide,by decide⟩,_,_,rfl,rfl,_,rfl,_,b,ws,rs,rfl,s1.seq hb,Paired.imp (fun _ _=>eQ.tk s1.tk) pr,l13,fun l2 C2 H2 s2 hc2 cl2 cs2 nd2=>?_⟩;refine⟨_,rfl,_,_,rfl,rfl,⟨by decide,by decide⟩,_,rfl,fun r=>?_⟩;refine⟨_,rfl,z,90,3,rfl,by decide,by decide,fun j hj=>?_⟩;refine⟨_,_,rfl,rfl,.inr ⟨_,rfl,?_⟩⟩;obtain⟨M,eM⟩:∃M:Nat,((r:Nat):Int)*(if decide ((0:Int)<((j:Nat):Int))=true then 1 else 0)=(M:Nat):=by
  split
  ·exact⟨r,by omega⟩
  ·exact⟨0,by omega⟩
 refine⟨_,_,rfl,rfl,.inr ⟨by split<;>decide,by split<;>decide⟩,?_⟩;dsimp only;rw[eM];clear eM;refine fun d hd=>?_;have s3:=s1.trans s2;have hc1':=hc1.tk s2.tk;have sd:∀o:HO,aw H2 (upd H2 d o):=fun o=>aw.upd hd;let gk:Nat->Nat->Option Col:=fun k i=>if i<k/\m.testBit i=true then some (if M.testBit i=true then C2 else C1)else none
 refine⟨64,rfl,by decide,by decide,iH (lo:=0) (fun k σ H3=>∃(o9:Option V)(kvs:List (Key×V)),σ=[some (.int m),some (.int z),some (.ref b),some (.int w),some (.int last),some (.ref l1),some (.ref l2),some (.int (M:Nat)),some (.ref d),o9]/\aw H2 H3/\H3 d=some (.dK kvs)/\GD K H3 kvs (gk k)/\(kvs.map fun q=>kV q.1)=NV ((List.range k).filter m.testBit)) ?_ ?_ ?_⟩
 ·refine⟨none,[],rfl,sd _,af,?_,rfl⟩;have e:gk 0=fun _=>none:=funext fun i=>F6 (fun z=>absurd z.1 (Nat.not_lt_zero _));rw[e];exact GD.nil
 ·rintro k σ H3 hk ⟨o9,kvs,rfl,s4,hd3,gd,ek⟩;rw[show(0:Int)+(k:Int)=((k:Nat):Int) by omega];refine fm ?_;intro kD1;refine⟨_,rfl,_,rfl,m,k,rfl,by omega,_,rfl,?_⟩;refine bj (fun h1=>?_) (fun h1=>?_)
  ·have lk:kvs.length<=64:=by
    have:=congrArg List.length ek;rw[FY,FY]at this;rw[this];exact GA (Hk _ _) (by rw[Ha];omega)
   have v0:eu kvs (.inl (k:Int))=none:=by
    rcases gd k with y|⟨_,c,_,e,_⟩
    ·exact y.1
    ·have e':(if k<k/\m.testBit k=true then some (if M.testBit k=true then C2 else C1)else none)=some c:=e;rw[F6 (fun y=>HF _ y.1)]at e';cases e'
   have hat:atI [V.ref l1,V.ref l2] (if M.testBit k=true then 1 else 0)=some (.ref (if M.testBit k=true then l2 else l1)):=by split<;>rfl
   refine⟨_,rfl,_,rfl,aP rfl,fun l5 hl5=>?_⟩;have s5:=aw.upd (o:=.lst [V.ref l1,V.ref l2]) hl5;have hd5:=s5 _ _ hd3;refine⟨_,rfl,_,rfl,M,k,rfl,by omega,.inr ⟨_,rfl,l5,_,_,_,rfl,rfl,SqL.of af,hat,?_⟩⟩;refine⟨_,rfl,_,rfl,d,_,rfl,qG.k (k:=.inl (k:Int)) hd5 (Nat.lt_of_le_of_lt lk (aN (by omega))),?_⟩;have tk6:=TK.dk (o:=.dK (putK kvs (.inl (k:Int)) (.ref (if M.testBit k=true then l2 else l1)))) hd5;have tk7:TK H2 (upd (upd H3 l5 (.lst [V.ref l1,V.ref l2])) d (.dK (putK kvs (.inl (k:Int)) (.ref (if M.testBit k=true then l2 else l1))))):=(s4.trans s5).tk.trans tk6;have hc:∀{HX:Hp},TK H2 HX->eO K HX (if M.testBit k=true then l2 else l1) (if M.testBit k=true then C2 else C1):=fun {HX} tx=>by
    split
    ·exact hc2.tk tx
    ·exact hc1'.tk tx
   refine⟨_,_,rfl,?_,af,?_,?_⟩
   ·intro a o e;rw[az (fun y=>by rw[y,hd]at e;cases e)];exact s5 _ _ (s4 _ _ e)
   ·have e:gk (k+1)=fun i=>if i=k then some (if M.testBit k=true then C2 else C1)else gk k i:=funext fun i=>by
     show(if i<k+1/\m.testBit i=true then _ else _)=(if i=k then _ else if i<k/\m.testBit i=true then _ else _);by_cases y:i=k
     ·subst y;rw[F8 ⟨by omega,h1⟩,F8 rfl]
     ·have:(i<k+1/\m.testBit i=true)<->(i<k/\m.testBit i=true):=⟨fun x=>⟨by omega,x.2⟩,fun x=>⟨by omega,x.2⟩⟩;rw[F6 y];simp only[this]
    rw[e];exact GD.put ((gd.tk s5.tk).tk tk6) (hc tk7)
   ·rw[zK _ v0,Gk,ek,List.range_succ,Ho,jb];simp[h1,kV]
  ·refine⟨_,kvs,rfl,s4,hd3,?_,?_⟩
   ·have e:gk (k+1)=gk k:=funext fun i=>by
     show(if i<k+1/\m.testBit i=true then _ else _)=(if i<k/\m.testBit i=true then _ else _);by_cases z:i=k
     ·subst z;rw[F6 (fun y=>h1 y.2),F6 (fun y=>h1 y.2)]
     ·have:(i<k+1/\m.testBit i=true)<->(i<k/\m.testBit i=true):=⟨fun y=>⟨by omega,y.2⟩,fun y=>⟨by omega,y.2⟩⟩;simp only[this]
    rw[e];exact gd
   ·rw[List.range_succ,Ho,jb,ek];simp[h1]
 ·rintro σ H3 ⟨o9,kvs,rfl,s4,hd3,gd,ek⟩;refine⟨_,rfl,_,rfl,_,rfl,z,w,rfl,fun ls S H4 s5 hS gS=>?_⟩;have gi:∀i,(gk 64 i).isSome=true<->i<64/\m.testBit i=true:=fun i=>by
   show(if i<64/\m.testBit i=true then _ else none).isSome=true<->_;split
   ·rename_i y;exact⟨fun _=>y,fun _=>rfl⟩
   ·rename_i y;exact⟨(fun x=>by cases x),(fun x=>absurd x y)⟩
  refine⟨_,rfl,d,kvs,gk 64,(List.range 64).filter m.testBit,rfl,s5 _ _ hd3,gd.tk s5.tk,ek,List.Pairwise.filter _ List.pairwise_lt_range,GA (Hk _ _) (by rw[Ha];omega),fun i=>by rw[gi,Hy,GN],fun i hi=>GN.mp (Hy.mp hi).1,fun lr R H5 s6 hR iR=>?_⟩;refine⟨_,rfl,aP rfl,fun l hl=>?_⟩;have s7:=aw.upd (o:=.tup [.int (m:Nat),.ref ls,.ref lr,.int last]) hl;refine q (.ref l) ⟨m,S,R,last⟩ _ (s3.trans (s4.trans (s5.trans (s6.trans s7)))) ⟨l,ls,lr,rfl,SqT.of af,hS.tk (s6.trans s7).tk,hR.tk s7.tk⟩ ⟨hm,gS,gk 64,iR,fun i hi=>?_,fun i c e=>?_⟩ (fun nd q hq=>?_) (Bk (C1:=C1) (C2:=C2) iR fun i c e=>?_) rfl rfl
  ·rw[gi];exact⟨fun y=>y.2,fun y=>⟨hi,y⟩⟩
  ·have e':(if i<64/\m.testBit i=true then some (if M.testBit i=true then C2 else C1)else none)=some c:=e;split at e'
   ·cases e';split
    ·exact⟨cl2,cs2⟩
    ·exact⟨cl1,cs1⟩
   ·exact nomatch e'
  ·obtain⟨i,_,e⟩:=ou iR hq;have e':(if i<64/\m.testBit i=true then some (if M.testBit i=true then C2 else C1)else none)=some q.2:=e;split at e'
   ·rw[<-GB e'];split
    ·exact nd2 nd
    ·exact nd1 nd
   ·exact nomatch e'
  ·have e':(if i<64/\m.testBit i=true then some (if M.testBit i=true then C2 else C1)else none)=some c:=e;split at e'
   ·cases e';split
    ·exact .inr rfl
    ·exact .inl rfl
   ·exact nomatch e'
def nG(K:Frag):Sp:=fun vs H Q _=>∃(a:Addr)(ns:List Int)(w:Int),vs=[.ref a,.int w]/\SqL K H a (ns.map V.int)/\∀(l sg:Addr)(num since:Int)(ss:List Str) H',aw H H'->SqT K H' l [.int num,.int since,.ref sg]->SqT K H' sg (SV ss)->(∀x∈ss,PyData.canLay0 (.str x)=true)->Q (.ref l) H'
variable(i8:Df P w K mg base 3 "_law_head" ["_law_script","_law_way"] (nG K))
theorem jz:aD ["_law_script","_law_way","_law_seed","_law_cell"] ["_law_script","_law_way"] (aq (top 63)):=by trivial
include B aM bC fg dI in
theorem u5(T:Tx K mg "_law_head" (top 63) ["_law_script","_law_way"]):Df P w K mg base 3 "_law_head" ["_law_script","_law_way"] (nG K):=by refine T.df jz (by rintro _ _ _ _ ⟨a,ns,w,rfl,hS,q⟩;rfl) ?_;rintro f _ A _ s H _ Q E hr ⟨a,ns,w,rfl,hS,q⟩;refine aQ ?_;intro kX;refine ai 2 (ao (aH (bp (aa (aE bC hr (aa ae (aa (pv 2) ah))) (aa (aE fg hr (aa (pv 3) (aa ae (aa (pv 1) ah)))) (aa (aE dI hr (aa (pv 3) (aa (pv 1) ah))) ah)))))) ?_;intro kR2 pR2;refine ai 1 (aj (aA (i:=3) jz.nd rfl (by trivial) (aE aM hr (aa (pv 0) (aa ae ah)))) pR2) ?_;intro kR1 pR1;refine⟨_,(aj (aA (i:=2) jz.nd rfl (by trivial) (aE aM hr (aa (pv 0) (aa ae ah)))) pR1),?_⟩;refine⟨_,rfl,a,ns,2,rfl,hS,?_⟩;refine⟨_,rfl,a,ns,3,rfl,hS,?_⟩;refine⟨_,rfl,20,_,rfl,⟨by decide,by decide⟩,fun H1 s1=>?_⟩;refine⟨_,rfl,_,rfl,_,w,1,rfl,by decide,fun n H2 s2 _=>?_⟩;refine⟨_,rfl,_,rfl,_,w,rfl,fun l ss H3 s3 hs ls=>⟨aP rfl,fun t ht=>?_⟩⟩;have s4:=aw.upd (o:=.tup [.int (p7 20 (ns.getD 2 0)),.int n,.ref l]) ht;exact q t l _ n ss _ (s1.trans (s2.trans (s3.trans s4))) (SqT.of af) (s4.tup hs) ls
def jd(K:Frag):Sp:=fun vs H Q _=>∃(lw lp sg pa:Addr)(t:V)(num since:Int)(G:gZ)(ss:List Str)(xs:List V)(ps:List Plt)(rs:List (List Key)),vs=[.ref lw,.ref lp]/\SqT K H lw (Dn t num since sg pa G)/\SqT K H pa [.int G.t,.int G.b]/\SqT K H sg (SV ss)/\(∀x∈ss,PyData.canLay0 (.str x)=true)/\SqL K H lp xs/\Paired (PlF K H) xs ps/\(∀p∈ps,PlG rs p/\ShG p.S)/\nW G/\∀o v H',aw H H'->g4 ps G num since ss o->IsD K H' (outD o) v->Q v H'
variable(fA:Df P w K mg base 3 "_law_give_due" ["_law_row","_law_plots"] (jd K))
theorem cw:aD ["_law_row","_law_plots","_law_plot","_law_holders","_law_burden","_law_who","_law_shares"] ["_law_row","_law_plots"] (aq (top 73)):=by trivial
include B cF bD fR i7 gz cu in
theorem n9(T:Tx K mg "_law_give_due" (top 73) ["_law_row","_law_plots"]):Df P w K mg base 3 "_law_give_due" ["_law_row","_law_plots"] (jd K):=by
 refine T.df cw (by rintro _ _ _ _ ⟨lw,lp,sg,pa,t,num,since,G,ss,xs,ps,rs,rfl,hw,hpa,hs,ls,hl,pp,hPG,hG,q⟩;rfl) ?_;rintro f _ A _ s H _ Q E hr ⟨lw,lp,sg,pa,t,num,since,G,ss,xs,ps,rs,rfl,hw,hpa,hs,ls,hl,pp,hPG,hG,q⟩;refine aQ ?_;intro kX;refine ai 10 (ao (aH (bp (aa aS (aa (bp (aa (bp (aa (pv 2) ah)) (aa (bp (aa (bp (aa (aC aF (pv 2) ae (fun _ _=>rfl)) (aa (pv 6) (aa (aC aF (pv 2) ae (fun _ _=>rfl)) (aa (aC aF (pv 0) ae (fun _ _=>rfl)) ah))))) ah)) (aa (bp ah) ah)))) ah))))) ?_;intro kR10 pR10;refine ai 9 (aj (aU (aJ jG (aT (yR rfl) (by rfl) B.max boot_max (aa (bZ ["_law_name_here","_law_share"] [] (gg _ []) rfl (by rfl) rfl (by trivial) (by trivial) (aW (by rfl)) (cR (by rfl)) mN mN (Bf (by decide) (by decide) (by decide)) (iq (pv 6)) (fun _ _ _ _=>BH (K:=K) rfl rfl (fu (aR (i:=0) (show(["_law_name_here","_law_share"]:List Str).Nodup by trivial) rfl (Or.inl rfl) (Or.inr rfl)) (fu (aR (i:=1) (show(["_law_name_here","_law_share"]:List Str).Nodup by trivial) rfl (Or.inl rfl) (Or.inr rfl)) oA))) (fun _ _ _ _=>cC) (fun _ _ _ _=>(aC (fO (K:=K) rfl) (pv 1) ae (fun _ _=>rfl)))) ah)) (au gc ae ae) (aI _)) (ao (aH (bp (aa aS (aa aS (aa aS ah)))))) aK) pR10) ?_;intro kR9 pR9;refine ai 8 (aj (aA (i:=6) cw.nd rfl (by trivial) (aE gz hr (aa (aC aF (pv 2) ae (fun _ _=>rfl)) (aa (pv 0) ah)))) pR9) ?_;intro kR8 pR8;refine ai 7 (aj (aU (dP (aE i7 hr (aa (aE cu hr (aa (aC aF (pv 2) ae (fun _ _=>rfl)) (aa (aC aF (pv 0) ae (fun _ _=>rfl)) ah))) (aa (aC aF (pv 0) ae (fun _ _=>rfl)) ah)))) (ao (aH (bp (aa aS (aa aS (aa aS ah)))))) aK) pR8) ?_;intro kR7 pR7;refine ai 6 (aj (aU (aJ jR (pv 5) dA (aI _)) (ao (aH (bp (aa aS (aa aS (aa (pv 5) ah)))))) aK) pR7) ?_;intro kR6 pR6;refine ai 5 (aj (aA (i:=5) cw.nd rfl (by trivial) (aE fR hr (aa (pv 3) (aa (aC aF (pv 0) ae (fun _ _=>rfl)) ah)))) pR6) ?_;intro kR5 pR5;refine ai 4 (aj (dz GH rfl (dE (aE bD hr (aa (pv 2) ah))) (aR (i:=4) cw.nd rfl (by trivial)) (ao (aU ((uQ (aJ ck (aC aF (pv 4) ae (fun _ _=>rfl)) aS (aI _)) (pJ ((ip (aJ ck (aC aF (pv 4) ae (fun _ _=>rfl)) aS (aI _)) (hV (aJ zZ (aC aF (pv 4) ae (fun _ _=>rfl)) (aC aF (pv 0) ae (fun _ _=>rfl)) (aI _)))).pt))).pt) (ao (aU (aJ kB (aC aF (pv 4) ae (fun _ _=>rfl)) (aC aF (pv 0) ae (fun _ _=>rfl)) (aI _)) (ao (cZ (kA GL G2 G1 dy (pv 3) (aa (aC aF (pv 4) ae (fun _ _=>rfl)) ah)))) aK)) aK))) pR5) ?_;intro kR4 pR4;refine ai 3 (aj (aA (i:=3) cw.nd rfl (by trivial) (cM (aa (aC aF (pv 0) ae (fun _ _=>rfl)) ah))) pR4) ?_;intro kR3 pR3;refine ai 2 (aj (aU ((ip (aJ kB (aC aF (pv 0) ae (fun _ _=>rfl)) ae (aI _)) (hV (aJ kB (aC aF (pv 0) ae (fun _ _=>rfl)) (aC aF (pv 2) ae (fun _ _=>rfl)) (aI _)))).pt) (ao (aH (bp (aa aS (aa aS (aa aS ah)))))) aK) pR3) ?_;intro kR2 pR2;refine ai 1 (aj (aU (aJ mU (pv 2) dA (aI _)) (ao (aH (bp (aa aS (aa aS (aa aS ah)))))) aK) pR2) ?_;intro kR1 pR1;refine⟨_,(aj (aA (i:=2) cw.nd rfl (by trivial) (aE cF hr (aa (pv 1) (aa (aC aF (pv 0) ae (fun _ _=>rfl)) ah)))) pR1),?_⟩;refine⟨_,rfl,_,rfl,lw,_,_,_,rfl,rfl,hw,av (j:=4) rfl,lp,xs,_,G.c,rfl,.inl hl,tG pp,hG.c,?_⟩;rcases mv (c:=G.c) pp with⟨e,efn⟩|⟨v,p,ev,nn,hfd,hp,mp⟩
 ·rw[e];exact⟨_,rfl,rfl,_,rfl,jh ⟨aP rfl,fun t0 ht0=>q (.falls "waste" "") _ _ ((aw.refl _).trans (aw.upd ht0)) (.waste efn) (.tup (SqT.of af) (.cons (.str _) (.cons (.str _) (.cons (.str _) .nil))))⟩⟩
 rw[ev];obtain⟨PG,hS⟩:=hPG p mp;obtain⟨l,l1',lr,rfl,p1,p2,p3⟩:=id hp;refine⟨_,rfl,rfl,_,rfl,fq ?_⟩;refine⟨_,rfl,lw,_,_,_,rfl,rfl,hw,av (j:=8) rfl,rfl,_,rfl,?_⟩;refine(fun(key:(G.gr=0\/G.gr=(p.g:Int))->_)=>bj (fun h1=>⟨_,rfl,lw,_,_,_,rfl,rfl,hw,av (j:=8) rfl,_,rfl,l,_,_,_,rfl,rfl,p1,av (j:=0) rfl,rfl,_,rfl,bj (fun h2=>?_) (fun h2=>key (.inr (G5 fun y=>h2 (vne.mpr y))))⟩) (fun h1=>fq (key (.inl (G5 fun y=>h1 (vne.mpr y)))))) ?_
 ·intro hg;refine⟨_,rfl,lw,_,_,_,rfl,rfl,hw,av (j:=5) rfl,aP rfl,fun l0 hl0=>?_⟩;have s0:=aw.upd (o:=.lst [.str G.gv]) hl0;have h00:(upd H l0 (.lst [.str G.gv])) l0=some (.lst [.str G.gv]):=af;generalize (upd H l0 (.lst [.str G.gv]))=H0 at s0 h00 ⊢;refine⟨_,rfl,_,p,rs,rfl,hp.e.tk s0.tk,PG.nm,fun lb ys T H1 s1 hlb py hB=>?_⟩;have h01:=s1 _ _ h00;have s01:=s0.trans s1;have bT:∀r∈T,fE r:=fun r hr=>by
   obtain⟨c,hc,hr'⟩:=(hB.mem r).mp hr;obtain⟨q',hq',rfl⟩:=Ge.mp hc;exact PG.nm.bur r (PG.nm.sub q' hq' r hr')
  have lT:T.length<=59:=w4 hB (fun c' hc' r hr=>by
   obtain⟨q',hq',rfl⟩:=Ge.mp hc'
   exact PG.nm.sub q' hq' r hr) PG.nm.l59
  have ly:=Gi py;have nb:lb≠l0:=fun e=>by
   subst e;rw[hlb]at h01;cases h01;cases py with
   |cons h _=>obtain⟨_,ab,e,_⟩:=h;cases e
  have tkL:∀zs:List V,TK H1 (upd H1 l0 (.lst zs)):=fun zs=>TK.lst h01;have sL:∀zs:List V,aw H (upd H1 l0 (.lst zs)):=fun zs b o e=>by rw[az (fun z=>by rw[z,hl0]at e;cases e)];exact s01 _ _ e
  refine⟨lb,rfl,⟨_,SqL.of hlb⟩,fZ (K:=K) (a:=lb) (xs:=ys) (fun i σ H2=>∃o4:Option V,σ=[some (.ref lw),some (.ref lp),some (.ref l),some (.ref l0),o4,none,none]/\H2=upd H1 l0 (.lst (SV (G.gv::de since G.tk (T.take i))))) ⟨none,rfl,(zj h01).symm⟩ (fun i σ H2 _ hPz=>hPz.elim fun _ hPz=>(fun e=>by rw[e];exact SqL.of (by rw[az nb];exact hlb)) (hPz.2)) ?_ ?_⟩
  ·rintro i y σ H2 hi ⟨o4,rfl,rfl⟩;refine fm ?_;intro kD1;obtain⟨r,hr,bur⟩:=aX py hi;have i59:i<ys.length:=(Gr.mp hi).1;have snoc:=A2 (since:=since) (tk:=G.tk) hr;obtain⟨n,k,x,m,un,rfl⟩:=bT r (Gb hr);obtain⟨lay,ab,rfl,hb1⟩:=bur;have hb:=(tkL (SV (G.gv::de since G.tk (T.take i)))).sq hb1;have hw2:=(sL (SV (G.gv::de since G.tk (T.take i)))).tup hw;rw[A3]at snoc;have no:((decide (V.str k=V.str "buy")||(decide (V.str k=V.str "note")&&decide (since<=un)))&& !decide (V.str x=V.str G.tk))=false->∃o4:Option V,[some (V.ref lw),some (V.ref lp),some (V.ref l),some (V.ref l0),some (V.ref ab),none,none]=[some (.ref lw),some (.ref lp),some (.ref l),some (.ref l0),o4,none,none]/\upd H1 l0 (.lst (SV (G.gv::de since G.tk (T.take i))))=upd H1 l0 (.lst (SV (G.gv::de since G.tk (T.take (i+1))))):=fun z=>by
    rw[z,F6 (by decide),GF]at snoc;exact⟨_,rfl,by rw[snoc]⟩
   have yes:((decide (V.str k=V.str "buy")||(decide (V.str k=V.str "note")&&decide (since<=un)))&& !decide (V.str x=V.str G.tk))=true->∃o4:Option V,[some (V.ref lw),some (V.ref lp),some (V.ref l),some (V.ref l0),some (V.ref ab),none,none]=[some (.ref lw),some (.ref lp),some (.ref l),some (.ref l0),o4,none,none]/\upd (upd H1 l0 (.lst (SV (G.gv::de since G.tk (T.take i))))) l0 (.lst (SV (G.gv::de since G.tk (T.take i))++[.str x]))=upd H1 l0 (.lst (SV (G.gv::de since G.tk (T.take (i+1))))):=fun z=>by rw[z,F8 rfl]at snoc;refine⟨_,rfl,?_⟩;rw[snoc,bq];show _=upd H1 l0 (.lst (List.map V.str (_::(_++_))));rw[<-List.cons_append,Gk];rfl
   have lA:(SV (G.gv::de since G.tk (T.take i))).length<sizeLine:=by
    show(List.map _ _).length<_;rw[FY,Gs];have:(de since G.tk (T.take i)).length<=i:=by unfold de;rw[FY];exact GA (Hk _ _) (by rw[G0];omega)
    exact aN (by omega)
   refine⟨_,rfl,ab,_,_,_,rfl,rfl,hb,av (j:=1) rfl,rfl,_,rfl,?_⟩;refine bj (fun h1=>jh ?_) (fun h1=>?_)
   ·replace h1:decide (V.str k=V.str (Str.ofString "buy"))=true:=h1;rw[h1,Bool.true_or,Bool.true_and]at no yes;refine⟨_,rfl,ab,_,_,_,rfl,rfl,hb,av (j:=2) rfl,_,rfl,lw,_,_,_,rfl,rfl,hw2,av (j:=6) rfl,rfl,_,rfl,?_⟩;refine bj (fun h3=>?_) (fun h3=>no (Hs h3));exact⟨_,rfl,.inl ⟨rfl,_,SqL.of af⟩,_,rfl,ab,_,_,_,rfl,rfl,hb,av (j:=2) rfl,l0,_,_,rfl,rfl,af,lA,yes h3⟩
   ·replace h1:¬decide (V.str k=V.str (Str.ofString "buy"))=true:=h1;rw[Hs h1,Bool.false_or]at no yes;refine⟨_,rfl,ab,_,_,_,rfl,rfl,hb,av (j:=1) rfl,rfl,_,rfl,?_⟩;refine bj (fun h2=>?_) (fun h2=>fq ?_)
    ·replace h2:decide (V.str k=V.str (Str.ofString "note"))=true:=h2;rw[h2,Bool.true_and]at no yes;refine⟨_,rfl,ab,_,_,_,rfl,rfl,hb,av (j:=4) rfl,_,rfl,lw,_,_,_,rfl,rfl,hw2,av (j:=2) rfl,_,_,rfl,rfl,_,rfl,?_⟩;refine bj (fun h4=>?_) (fun h4=>?_)
     ·replace h4:decide (since<=un)=true:=h4;rw[h4,Bool.true_and]at no yes;refine⟨_,rfl,ab,_,_,_,rfl,rfl,hb,av (j:=2) rfl,_,rfl,lw,_,_,_,rfl,rfl,hw2,av (j:=6) rfl,rfl,_,rfl,?_⟩;refine bj (fun h3=>?_) (fun h3=>no (Hs h3));exact⟨_,rfl,.inl ⟨rfl,_,SqL.of af⟩,_,rfl,ab,_,_,_,rfl,rfl,hb,av (j:=2) rfl,l0,_,_,rfl,rfl,af,lA,yes h3⟩
     ·replace h4:¬decide (since<=un)=true:=h4;rw[Hs h4,Bool.false_and]at no;exact no rfl
    ·replace h2:¬decide (V.str k=V.str (Str.ofString "note"))=true:=h2;rw[Hs h2,Bool.false_and,Bool.false_and]at no;exact no rfl
  ·rintro σ H2 ⟨o4,rfl,rfl⟩;rw[ly,GK];have s2:=sL (SV (G.gv::de since G.tk T));have h02:(upd H1 l0 (.lst (SV (G.gv::de since G.tk T)))) l0=some (.lst (SV (G.gv::de since G.tk T))):=af;generalize (upd H1 l0 (.lst (SV (G.gv::de since G.tk T))))=H2 at s2 h02 ⊢;have lays:∀x∈G.gv::de since G.tk T,PyData.canLay0 (.str x)=true:=fun x hx=>by
    rcases Gg.mp hx with e|e
    ·rw[e];exact hG.gv
    ·obtain⟨r,hr,rfl⟩:=Ge.mp e;have hr':=(Hy.mp hr).1;obtain⟨v',hv',bur⟩:=Paired.right py hr';obtain⟨_,_,_,_,_,hl⟩:=uu (bT r hr') bur;exact hl
   refine⟨_,rfl,_,rfl,lw,_,_,_,rfl,rfl,s2.tup hw,av (j:=3) rfl,l0,sg,ss,_,rfl,SqL.of h02,s2.tup hs,ls,lays,?_⟩;refine⟨_,rfl,rfl,_,rfl,?_⟩;cases hx:ft ss (G.gv::de since G.tk T)with
   |some x=>exact jh ⟨_,rfl,aP rfl,fun t0 ht0=>q (.falls "sign" x) _ _ (s2.trans (aw.upd ht0)) (.of hfd hg (.sign hB hx)) (.tup (SqT.of af) (.cons (.str _) (.cons (.str _) (.cons (.str _) .nil))))⟩
   |none=>
   refine fq ?_;have ag:=hS.ok.at G.gv;have bg:=hS.bd.at (by decide) G.gv;have B2:∀{z:Int},Bd 900 z->Bd 2000 z:=fun h=>h.mono (by decide);refine⟨_,rfl,l,_,_,_,rfl,rfl,s2.tup p1,av (j:=1) rfl,_,rfl,lw,_,_,_,rfl,rfl,s2.tup hw,av (j:=5) rfl,l1',p.S,G.gv,rfl,p2.t.tk s2.tk,fun pz H3 s3 hz=>?_⟩;have s23:=s2.trans s3;refine⟨_,rfl,lw,_,_,_,rfl,rfl,s23.tup hw,av (j:=7) rfl,pz,pa,_,_,_,_,rfl,hz,s23.tup hpa,⟨ag.1.pos,hG.b⟩,⟨B2 bg.1,B2 bg.2,B2 hG.bt,B2 hG.bb⟩,_,rfl,?_⟩;refine bj (fun h1=>⟨aP rfl,fun t0 ht0=>q (.falls "share" "") _ _ (s23.trans (aw.upd ht0)) (.of hfd hg (.share hB hx (show ltG p G from Gu (p:=(aG p.S G.gv).1*G.b<G.t*(aG p.S G.gv).2) h1))) (.tup (SqT.of af) (.cons (.str _) (.cons (.str _) (.cons (.str _) .nil))))⟩) (fun h1=>?_);have hn:¬ltG p G:=fun z=>h1 (Gp z);refine⟨_,rfl,l,_,_,_,rfl,rfl,s23.tup p1,av (j:=1) rfl,_,rfl,l1',lw,sg,pa,t,num,since,p,G,rfl,p2.tk s23.tk,hS,s23.tup hw,s23.tup hpa,hG,hn,fun ln tt H4 s4 pm so hT=>?_⟩;have s24:=s23.trans s4;have eT:fh (c7 p G) tt=bY (c7 p G) tt:=yc (vn (g:=G.gv) (k:=G.tk) (f:=(G.t,G.b)) hS.ok hG.b (He hG.t) hn) tt;have ne:=B4 hS.ok hG hn pm;have lt50:(fh (c7 p G) tt).length<=52:=by have a:=rJ (c7 p G) tt;have b:=pm.length_eq;rw[FY]at b;have c:(c7 p G).length<=p.S.length+2:=jW p.S G.gv G.tk (G.t,G.b);have:=hS.len;omega
   obtain⟨vs9,hv9,rv9⟩:=id hT;have lv9:=Gi rv9;refine⟨_,rfl,ln,rfl,⟨_,hv9⟩,fun D hD=>?_⟩;have sD:∀o:HO,aw H4 (upd H4 D o):=fun o=>aw.upd hD;refine xW (K:=K) (a:=ln) (xs:=vs9) (fun i acc HA=>HA=upd H4 D (.lst acc)/\acc=((((fh (c7 p G) tt).take i).map fun q=>q.2.2).map V.int)) ⟨rfl,rfl⟩ (fun i acc HA _ ⟨e,_⟩=>by rw[e];exact(sD _).tup hv9) ?_ ?_
   ·rintro i y acc HA hi ⟨rfl,rfl⟩;refine fo ?_;intro kq2 kr2;obtain⟨p',hp',r1,q1,rfl,h1,h2⟩:=aX rv9 hi;have i52:i<vs9.length:=(Gr.mp hi).1;refine⟨r1,_,rfl,(sD _).tup h1,rfl,_,_,rfl,_,_,rfl,rfl,_,rfl,q1,_,_,_,rfl,rfl,(sD _).tup h2,av (j:=1) rfl,af,?_,by rw[bq],?_⟩
    ·rw[FY,FY,G0];exact aN (by omega)
    ·rw[GI,hp',GX,Gk,Gk];rfl
   rintro acc HA ⟨rfl,rfl⟩;rw[lv9,GK];have s25:=s24.trans (sD (.lst (((fh (c7 p G) tt).map fun q=>q.2.2).map V.int)));have hT5:=hT.tk (sD (.lst (((fh (c7 p G) tt).map fun q=>q.2.2).map V.int))).tk;have hD5:(upd H4 D (.lst (((fh (c7 p G) tt).map fun q=>q.2.2).map V.int))) D=some (.lst (((fh (c7 p G) tt).map fun q=>q.2.2).map V.int)):=af;generalize (upd H4 D (.lst (((fh (c7 p G) tt).map fun q=>q.2.2).map V.int)))=H5 at s25 hT5 hD5 ⊢;refine⟨D,_,rfl,SqL.of hD5,by rw[FY];exact ne,fun mx hm hmax=>?_⟩;have h60:(10:Int)^(60:Int).toNat=FIN:=(by decide+kernel);refine⟨_,_,rfl,rfl,⟨by decide,by decide,by decide⟩,_,_,rfl,rfl,_,rfl,?_⟩;rw[eT]at hm hmax hT5;refine bj (fun h7=>?_) (fun h7=>?_)
   ·have h7':FIN<mx:=(by rw[<-h60];exact Gu h7);obtain⟨q0,hq0,rfl⟩:=Ge.mp hm;exact⟨aP rfl,fun t0 ht0=>q (.falls "fine" "") _ _ (s25.trans (aw.upd ht0)) (.of hfd hg (.fine hB hx hn pm so ⟨q0,hq0,h7'⟩)) (.tup (SqT.of af) (.cons (.str _) (.cons (.str _) (.cons (.str _) .nil))))⟩
   have nf:¬∃q∈bY (c7 p G) tt,FIN<q.2.2:=fun⟨q0,hq0,z⟩=>h7 (Gp (by
    show(10:Int)^(60:Int).toNat<mx;rw[h60]
    exact Int.lt_of_lt_of_le z (hmax _ (Ge.mpr ⟨q0,hq0,rfl⟩))))
   refine⟨_,rfl,aP rfl,fun t1 ht1=>?_⟩;have s6:=aw.upd (o:=.tup [.ref l]) ht1;have s26:=s25.trans s6;refine⟨_,rfl,l,_,_,_,rfl,rfl,s26.tup p1,av (j:=0) rfl,_,rfl,_,rfl,l,_,_,_,rfl,rfl,s26.tup p1,av (j:=2) rfl,_,rfl,lw,_,_,_,rfl,rfl,s26.tup hw,av (j:=1) rfl,aP rfl,fun tm htm=>?_⟩;have s7:=aw.upd (o:=.tup [.int (p.g:Nat),.ref ln,.ref lr,.int num]) htm;have ew:PlE K (upd (upd H5 t1 (.tup [.ref l])) tm (.tup [.int (p.g:Nat),.ref ln,.ref lr,.int num])) (.ref tm) ⟨p.g,bY (c7 p G) tt,p.R,num⟩:=⟨tm,ln,lr,rfl,SqT.of af,hT5.tk (s6.trans s7).tk,p3.tk (s26.trans s7).tk⟩;refine⟨aP rfl,fun t2 ht2=>?_⟩;have s8:=aw.upd (o:=.tup [.ref tm]) ht2;refine⟨aP rfl,fun t3 ht3=>?_⟩;have s9:=aw.upd (o:=.tup []) ht3;refine⟨aP rfl,fun t4 ht4=>?_⟩;have s10:=aw.upd (o:=.tup [.ref t1,.ref t2,.ref t3]) ht4;refine⟨aP rfl,fun t5 ht5=>?_⟩;have s11:=aw.upd (o:=.tup [.str "does",.ref t4]) ht5;have sA:=s7.trans (s8.trans (s9.trans (s10.trans s11)));have e1:PlE K _ (.ref l) p:=PlE.tk (s26.trans sA).tk hp.e;have e2:=PlE.tk (s8.trans (s9.trans (s10.trans s11))).tk ew;exact q (.does p ⟨p.g,bY (c7 p G) tt,p.R,num⟩) _ _ (s26.trans sA) (.of hfd hg (.does hB hx hn pm so nf)) (.tup (SqT.of af) (.cons (.str _) (.cons (.tup (s11.tup (SqT.of af)) (.cons (.tup (sA.tup (SqT.of af)) (.cons e1.isD .nil)) (.cons (.tup ((s9.trans (s10.trans s11)).tup (SqT.of af)) (.cons e2.isD .nil)) (.cons (.tup ((s10.trans s11).tup (SqT.of af)) .nil) .nil)))) .nil)))
 ·exact⟨aP rfl,fun t0 ht0=>q (.falls "other" "") _ _ ((aw.refl _).trans (aw.upd ht0)) (.other hfd (vne.mp h1) (vne.mp h2)) (.tup (SqT.of af) (.cons (.str _) (.cons (.str _) (.cons (.str _) .nil))))⟩
def jo(K:Frag):Sp:=fun vs H Q _=>∃(d y:Addr)(S:Sh)(x:Str)(t b:Int),vs=[.ref d,.str x,.ref y]/\ShD K H d S/\S.length<=100/\SqT K H y [.int t,.int b]/\(0<(aG S x).2/\Bd 2000 (aG S x).1/\Bd 2000 (aG S x).2)/\(0<b/\Bd 2000 t/\Bd 2000 b)/\∀H',jL d H H'->ShD K H' d (eF S x (je (aG S x) (t,b)))->Q .non H'
variable(fP:Df P w K mg base 4 "raise_share" ["held","name","part"] (jo K))
theorem px:aD ["held","name","part"] ["held","name","part"] (aq (top 30)):=by trivial
include B uh fF in
theorem pU(T:Tx K mg "raise_share" (top 30) ["held","name","part"]):Df P w K mg base 4 "raise_share" ["held","name","part"] (jo K):=by
 obtain⟨pu_NONE,gu_NONE,tu_NONE⟩:=fF;refine T.df px (by rintro _ _ _ _ ⟨d,y,S,x,t,b,rfl,hD,hl,hy,⟨a0,a1,a2⟩,⟨b0,b1,b2⟩,q⟩;rfl) ?_;rintro f _ A _ s H _ Q E hr ⟨d,y,S,x,t,b,rfl,hD,hl,hy,⟨a0,a1,a2⟩,⟨b0,b1,b2⟩,q⟩;have hu:=hr.units;refine⟨_,(ao (iS (fC hr) (pv 0) (pv 1) (aE uh hr (aa (lW (fC hr) (pv 0) (pv 1) (iU (v:=.ref pu_NONE) (by rfl) gu_NONE rfl) ⟨rfl,rfl,rfl,rfl⟩) (aa (pv 2) ah))) rfl)),?_⟩;obtain⟨kvs,hd,r⟩:=hD;refine⟨_,rfl,d,rfl,.inl ⟨_,.inl hd⟩,_,rfl,_,jj.k (k:=Sum.inr x) hd,?_⟩;have key:∀z:V,(∃p,z=.ref p/\SqT K H p [.int (aG S x).1,.int (aG S x).2])->∃p,z=.ref p/\SqT K H p [.int (aG S x).1,.int (aG S x).2]:=fun _ h=>h;have fin:∃p,(eu kvs (Sum.inr x)).getD (.ref pu_NONE)=.ref p/\SqT K H p [.int (aG S x).1,.int (aG S x).2]:=by
  rcases jO (x:=x) r with⟨h1,h2⟩|⟨p,f,h1,h2,h3⟩
  ·refine⟨pu_NONE,by rw[h1];rfl,?_⟩;have e:aG S x=(0,1):=(by unfold aG;rw[h2];rfl);rw[e];exact tu_NONE _
  ·refine⟨p,by rw[h1];rfl,?_⟩;have e:aG S x=f.2:=(by unfold aG;rw[h2];rfl);rw[e];exact h3
 obtain⟨p,ep,hp⟩:=fin;rw[ep];refine⟨_,rfl,p,y,(aG S x).1,(aG S x).2,t,b,rfl,hp,hy,⟨a0,b0⟩,⟨a1,a2,b1,b2⟩,fun l H1 s1 hl1=>?_⟩;have hd1:=s1 _ _ hd;have lk:kvs.length=S.length:=Gi r;refine⟨_,rfl,_,rfl,d,_,rfl,qG.k (k:=Sum.inr x) hd1 (aN (by omega)),?_⟩;refine q _ (s1.x.trans jL.upd) ⟨_,af,?_⟩;exact Paired.imp (fun _ _=>ShV.tk (TK.dK hd1)) (ow (SqT.of hl1) (Paired.imp (fun _ _=>ShV.tk s1.tk) r))
def jq(K:Frag):Sp:=fun vs H Q _=>∃(d y:Addr)(S:Sh)(x:Str)(t b:Int),vs=[.ref d,.str x,.ref y]/\ShD K H d S/\S.length<=100/\SqT K H y [.int t,.int b]/\(0<(aG S x).2/\Bd 2000 (aG S x).1/\Bd 2000 (aG S x).2)/\(0<b/\Bd 2000 t/\Bd 2000 b)/\∀H',jL d H H'->ShD K H' d (eF S x (cq (aG S x) (t,b)))->Q .non H'
variable(fQ:Df P w K mg base 4 "lower_share" ["held","name","part"] (jq K))
theorem pD:aD ["held","name","part"] ["held","name","part"] (aq (top 31)):=by trivial
include B oM fF in
theorem pV(T:Tx K mg "lower_share" (top 31) ["held","name","part"]):Df P w K mg base 4 "lower_share" ["held","name","part"] (jq K):=by
 obtain⟨pu_NONE,gu_NONE,tu_NONE⟩:=fF;refine T.df pD (by rintro _ _ _ _ ⟨d,y,S,x,t,b,rfl,hD,hl,hy,⟨a0,a1,a2⟩,⟨b0,b1,b2⟩,q⟩;rfl) ?_;rintro f _ A _ s H _ Q E hr ⟨d,y,S,x,t,b,rfl,hD,hl,hy,⟨a0,a1,a2⟩,⟨b0,b1,b2⟩,q⟩;have hu:=hr.units;refine⟨_,(ao (iS (fC hr) (pv 0) (pv 1) (aE oM hr (aa (lW (fC hr) (pv 0) (pv 1) (iU (v:=.ref pu_NONE) (by rfl) gu_NONE rfl) ⟨rfl,rfl,rfl,rfl⟩) (aa (pv 2) ah))) rfl)),?_⟩;obtain⟨kvs,hd,r⟩:=hD;refine⟨_,rfl,d,rfl,.inl ⟨_,.inl hd⟩,_,rfl,_,jj.k (k:=Sum.inr x) hd,?_⟩;have key:∀z:V,(∃p,z=.ref p/\SqT K H p [.int (aG S x).1,.int (aG S x).2])->∃p,z=.ref p/\SqT K H p [.int (aG S x).1,.int (aG S x).2]:=fun _ h=>h;have fin:∃p,(eu kvs (Sum.inr x)).getD (.ref pu_NONE)=.ref p/\SqT K H p [.int (aG S x).1,.int (aG S x).2]:=by
  rcases jO (x:=x) r with⟨h1,h2⟩|⟨p,f,h1,h2,h3⟩
  ·refine⟨pu_NONE,by rw[h1];rfl,?_⟩;have e:aG S x=(0,1):=(by unfold aG;rw[h2];rfl);rw[e];exact tu_NONE _
  ·refine⟨p,by rw[h1];rfl,?_⟩;have e:aG S x=f.2:=(by unfold aG;rw[h2];rfl);rw[e];exact h3
 obtain⟨p,ep,hp⟩:=fin;rw[ep];refine⟨_,rfl,p,y,(aG S x).1,(aG S x).2,t,b,rfl,hp,hy,⟨a0,b0⟩,⟨a1,a2,b1,b2⟩,fun l H1 s1 hl1=>?_⟩;have hd1:=s1 _ _ hd;have lk:kvs.length=S.length:=Gi r;refine⟨_,rfl,_,rfl,d,_,rfl,qG.k (k:=Sum.inr x) hd1 (aN (by omega)),?_⟩;refine q _ (s1.x.trans jL.upd) ⟨_,af,?_⟩;exact Paired.imp (fun _ _=>ShV.tk (TK.dK hd1)) (ow (SqT.of hl1) (Paired.imp (fun _ _=>ShV.tk s1.tk) r))
def ku(K:Frag)(mg:Str->Option Value):Sp:=fun vs H Q E=>∃(l:Addr)(xs:List V)(ps:List Plt)(c:Nat)(gr:Int),vs=[.ref l,.int c,.int gr]/\SqL K H l xs/\Paired (PlF K H) xs ps/\c<=64/\(fnd ps c=none->(∀dx H',aw H H'->H' dx=some (XD dx [("who",.str (Str.ofString "")),("word",.str (Str.ofString "waste"))])->E (kf mg "Falls") (some dx) H'))/\∀p v,fnd ps c=some p->p∈ps->PlF K H v p->((gr=0\/gr=(p.g:Int))->Q v H)/\(gr≠0->gr≠(p.g:Int)->(∀dx H',aw H H'->H' dx=some (XD dx [("who",.str (Str.ofString "")),("word",.str (Str.ofString "other"))])->E (kf mg "Falls") (some dx) H'))
variable(gw:DfN P w K mg base 4 "ask_ground" ["plots","cell","ground"] (ku K mg))
theorem kz:aD ["plots","cell","ground","plot"] ["plots","cell","ground"] (aq (top 37)):=by trivial
include B iW dO cA cB in
theorem rl(T:Tx K mg "ask_ground" (top 37) ["plots","cell","ground"]):DfN P w K mg base 4 "ask_ground" ["plots","cell","ground"] (ku K mg):=by
 refine T.dfN kz (by rintro _ _ _ _ ⟨l,xs,ps,c,gr,rfl,hl,pp,hc,q1,q2⟩;rfl) ?_;rintro f _ A _ s H _ Q E hr ⟨l,xs,ps,c,gr,rfl,hl,pp,hc,q1,q2⟩;refine aQ ?_;intro kX;refine ai 2 (ao (aH (pv 3))) ?_;intro kR2 pR2;refine ai 1 (aj (aU ((ip (aJ kB (pv 2) ae (aI _)) (hV (aJ kB (pv 2) (aC aF (pv 3) ae (fun _ _=>rfl)) (aI _)))).pt) (ao (mO (W:=RzW H E) rfl (wo dO.df hr (aa aS (aa aS (aa aS ah)))) (fun _ _ _ _ _ _ _ I hx ee=>sJ I hx ee.1 ee.2))) aK) pR2) ?_;intro kR1 pR1;refine⟨_,(aj (aA (i:=3) kz.nd rfl (by trivial) (wq iW hr (jF fun _ _ _ h=>h) (aa (pv 0) (aa (pv 1) ah)))) pR1),?_⟩;refine⟨_,rfl,_,rfl,l,xs,_,c,rfl,hl,tG pp,hc,fun hne=>?_,fun hno=>?_⟩
 ·rcases mv (c:=c) pp with⟨e,_⟩|⟨v,p,ev,_,hfd,hp,mp⟩
  ·exact absurd e hne
  rw[ev];obtain⟨k1,k2⟩:=q2 p v hfd mp hp;obtain⟨l2,l1',lr,rfl,p1,p2,p3⟩:=id hp;refine⟨_,rfl,rfl,_,rfl,?_⟩;refine bj (fun h0=>?_) (fun h0=>?_)
  ·refine⟨_,rfl,_,rfl,l2,_,_,_,rfl,rfl,p1,av (j:=0) rfl,rfl,_,rfl,?_⟩;refine bj (fun h1=>?_) (fun h1=>?_)
   ·exact⟨aP rfl,oJ cA cB (aw.refl _) (k2 (fun y=>vne.mp h0 (by omega)) (fun y=>vne.mp h1 (by omega)))⟩
   ·exact⟨_,rfl,k1 (.inr (by have:=mt vne.mpr h1;omega))⟩
  ·exact fq ⟨_,rfl,k1 (.inl (by have:=mt vne.mpr h0;omega))⟩
 ·rcases mv (c:=c) pp with⟨_,e⟩|⟨v,p,ev,nn,_⟩
  ·exact q1 e
  ·exact absurd (ev.symm.trans hno) nn
def g7(K:Frag):Sp:=fun vs H Q _=>∃(a:Addr)(ns:List Int)(w h:Nat)(z:Int),vs=[.ref a,.int w,.int h,.int z]/\SqL K H a (ns.map V.int)/\(0<w/\w<=8/\0<h/\h<=8)/\∀l vs ps rs H',aw H H'->H l=none->H' l=some (.lst vs)->Paired (PlF K H') vs ps->qz w h ((List.range 6).map (c5 z)) rs ps->(∀p∈ps,PlG rs p)->(∀r∈rs,bh r≠0)->Q (.ref l) H'
variable(d6:Df P w K mg base 4 "_law_make_plots" ["_law_script","_law_wide","_law_high","_law_way"] (g7 K))
theorem bw:aD ["_law_script","_law_wide","_law_high","_law_way","_law_ground","_law_some","_law_seed","_law_pool","_law_found","_law_k","_law_cell"] ["_law_script","_law_wide","_law_high","_law_way"] (aq (top 59)):=by trivial
include B dM aM fz dN aB eX in
theorem lX(T:Tx K mg "_law_make_plots" (top 59) ["_law_script","_law_wide","_law_high","_law_way"]):Df P w K mg base 4 "_law_make_plots" ["_law_script","_law_wide","_law_high","_law_way"] (g7 K):=by
 refine T.df bw (by rintro _ _ _ _ ⟨a,ns,w,h,z,rfl,hS,⟨hw,hw8,hh,hh8⟩,q⟩;rfl) ?_;rintro f _ A _ s H _ Q E hr ⟨a,ns,w,h,z,rfl,hS,⟨hw,hw8,hh,hh8⟩,q⟩;refine aQ ?_;intro kX;refine ai 7 (ao (aH (pv 8))) ?_;intro kR7 pR7;refine ai 6 (aZ (aU (aJ ck (aE aB hr (aa (pv 6) (aa ae (aa ae ah)))) ae (aI _)) (ao (cZ (zW GL PySem.F.slot_list_reverse PySem.F.type_list_reverse wD (pv 8)))) aK) pR7) ?_;intro kR6 pR6;refine bR 5 1 (ao (aU (aJ jG (aE aB hr (aa (pv 10) (aa ae (aa ae ah)))) ae (aI _)) (ao (cZ (kA GL G2 G1 dy (pv 8) (aa (aE eX hr (aa (aC bO (pv 5) (pv 9) (fun _ _=>rfl)) (aa (pv 10) (aa (pv 7) (aa (pv 3) (aa (au aY ae (au bf (au aY (pv 6) (au bX (au bV (pv 9) ae) ae)) (au gc ae ae))) ah)))))) ah)))) aK)) ?_;intro kS5x1 pS5x1;refine bR 5 0 (aj (aA (i:=10) bw.nd rfl (by trivial) (aE aM hr (aa (pv 0) (aa (au aY ae (pv 9)) ah)))) pS5x1) ?_;intro kS5x0 pS5x0;refine ai 5 (aj (dz GH rfl (bU (by rfl) B.range (aa (aT (yQ rfl) (by rfl) B.min boot_min (aa (aT bG (by rfl) B.len Ht (aa (pv 5) ah)) (aa ae ah))) ah)) (aR (i:=9) bw.nd rfl (by trivial)) pS5x0) pR6) ?_;intro kR5 pR5;refine ai 4 (aj (aA (i:=8) bw.nd rfl (by trivial) (cM ah)) pR5) ?_;intro kR4 pR4;refine ai 3 (aj (oz (i:=7) bw.nd rfl (by trivial) ["_law_k"] [("_law_seed",6),("_law_way",3)] (gg _ ["_law_way","_law_seed"]) rfl (by rfl) rfl (by trivial) (by trivial) (aW (by rfl)) (cR (by rfl)) (mC ⟨rfl,rfl⟩ (mC ⟨rfl,rfl⟩ mN)) (mC rfl (mC rfl mN)) (b6 (by decide)) (bU (by rfl) B.range (aa ae ah)) (fun _ _ _ _=>aR (i:=0) (show(["_law_k","_law_seed","_law_way"]:List Str).Nodup by trivial) rfl (Or.inl rfl) (Or.inr rfl)) (fun _ _ _ _=>cC) (fun _ _ _ _=>(aE dN hr (aa (pv 0) (aa (pv 1) (aa (pv 2) ah)))))) pR4) ?_;intro kR3 pR3;refine ai 2 (aj (aA (i:=6) bw.nd rfl (by trivial) (aE aM hr (aa (pv 0) (aa ae ah)))) pR3) ?_;intro kR2 pR2;refine ai 1 (aj (aA (i:=5) bw.nd rfl (by trivial) (au Aa (aE fz hr (aa (pv 1) (aa (pv 2) (aa (pv 4) ah)))) (aE fz hr (aa (pv 1) (aa (pv 2) (aa (au dB (au dB (au fJ ae (au bX (pv 1) (pv 2))) ae) (pv 4)) ah)))))) pR2) ?_;intro kR1 pR1;refine⟨_,(aj (aA (i:=4) bw.nd rfl (by trivial) (aE dM hr (aa (aE aM hr (aa (pv 0) (aa ae ah))) (aa (pv 1) (aa (pv 2) ah))))) pR1),?_⟩;have hwh:w*h<=64:=Nat.mul_le_mul hw8 hh8;refine⟨_,rfl,a,ns,1,rfl,hS,_,rfl,_,rfl,_,w,h,rfl,⟨hw,hw8,hh,hh8⟩,fun G H1 hG s1=>?_⟩;refine⟨_,rfl,_,rfl,_,rfl,w,h,G,rfl,⟨hw,hw8,hh8⟩,hG,fun l1 ps H2 n2 s2 hl1 hp1=>?_⟩;have pos:0<2^(w*h):=Nat.two_pow_pos _;have es:1*(2:Int)^((w:Int)*(h:Int)).toNat-1-(G:Int)=((dif (2^(w*h)-1) G:Nat):Int):=by
  rw[<-zE _ _ hG,Int.one_mul,show((w:Int)*(h:Int)).toNat=w*h by rw[show(w:Int)*(h:Int)=((w*h:Nat):Int) by simp];exact Hb _];have:((2^(w*h):Nat):Int)=(2:Int)^(w*h):=by simp
  omega
 refine⟨_,rfl,_,rfl,_,rfl,_,rfl,_,_,rfl,rfl,.inl ⟨by omega,by omega⟩,_,_,rfl,rfl,⟨?_,?_,by decide⟩,_,_,rfl,rfl,_,rfl,_,_,rfl,rfl,w,h,dif (2^(w*h)-1) G,?_,⟨hw,hw8,hh8⟩,?_,fun l2 qs H3 n3 s3 hl2 hp2=>?_⟩
 ·have e1:(w:Int)*(h:Int)=((w*h:Nat):Int):=by simp
  rw[e1];omega
 ·have e1:(w:Int)*(h:Int)=((w*h:Nat):Int):=by simp
  rw[e1];omega
 ·simp only[es]
 ·exact qm (by omega)
 obtain⟨b1,b2,b3,lp,lq⟩:=w6 hw hG hwh hp1 hp2;refine⟨l1,l2,_,_,rfl,rfl,s3 _ _ hl1,hl2,?_,fun l3 hl3=>?_⟩
 ·rw[FY,FY];exact Nat.le_of_lt (aN (by omega))
 rw[<-jb];have s4:=s1.trans (s2.trans (s3.trans (aw.upd (o:=.lst (NV (ps++qs))) hl3)));have h4:(upd H3 l3 (.lst (NV (ps++qs)))) l3=some (.lst (NV (ps++qs))):=af;have lps:(ps++qs).length<=128:=by rw[Gd];omega
 generalize (upd H3 l3 (.lst (NV (ps++qs))))=H4 at s4 h4 ⊢;generalize ps++qs=gs at b1 b2 b3 h4 lps ⊢;refine⟨_,rfl,a,ns,2,rfl,s4.seq hS,?_⟩;refine⟨13,rfl,by decide,by decide,fun A hA=>?_⟩;refine mE (n:=13) (lo:=0) (fun i acc H5=>aw H4 H5/\H5 A=some (.lst acc)/\∃rs:List (List Key),Paired (eQ K H5) acc rs/\rs.length=i/\(∀r∈rs,fE r)/\rs.map bh=(List.range i).map fun k:Nat=>p7 (k:Nat) (ns.getD 2 0)) ⟨aw.upd hA,af,[],.nil,rfl,(fun _ y=>nomatch y),rfl⟩ ?_ ?_
 ·rintro i acc H5 hi ⟨s5,h5,rs,pr,lr,br,nr⟩;rw[show(0:Int)+(i:Int)=((i:Nat):Int) by omega];refine fo ?_;intro kq1 kr1;refine⟨_,rfl,_,rfl,_,rfl,i,_,_,rfl,by omega,fun lb r H6 s6 hb hlay hbur hnum=>?_⟩;have h6:=s6 _ _ h5;have tk:=TK.lst (o:=.lst (acc++[.ref lb])) h6;have la:=Gi pr;refine⟨h6,aN (by omega),?_,af,rs++[r],?_,by rw[Gd,lr];rfl,fun x hx=>?_,by rw[Gk,nr,List.range_succ,Gk,HG,HG,hnum]⟩
  ·intro b o e;rw[az (fun y=>by rw[y,hA]at e;cases e)];exact s6 _ _ (s5 _ _ e)
  ·exact Paired.app (Paired.imp (fun _ _ y=>(y.tk s6.tk).tk tk) pr) (.cons (eQ.tk tk ⟨hlay,lb,rfl,SqT.of hb⟩) .nil)
  ·rcases Gj.mp hx with y|y
   ·exact br x y
   ·rw[F2.mp y];exact hbur
 rintro acc H5 ⟨s5,h5,rs,pr,lr,br,nr⟩;have pos0:∀r∈rs,bh r≠0:=fun r hr=>by have:=List.mem_map_of_mem (f:=bh) hr;rw[nr]at this;obtain⟨k,_,e⟩:=Ge.mp this;rw[<-e];exact BR _ _
 have nd13:(rs.map bh).Nodup:=by rw[nr];exact DE _
 refine⟨aP rfl,fun lf hlf=>?_⟩;have s6:=aw.upd (o:=.lst []) hlf;have h46:(upd H5 lf (.lst [])) l3=some (.lst (NV gs)):=s6 _ _ (s5 _ _ h4);have fr:H lf=none:=(s4.trans s5).free hlf;obtain⟨n,en,n8,nl⟩:∃n:Nat,(if(8:Int)<(((NV gs).length:Nat):Int)then(8:Int)else(((NV gs).length:Nat):Int))=(n:Nat)/\n<=8/\n<=gs.length:=by
  rw[FY];split
  ·exact⟨8,rfl,by omega,by omega⟩
  ·exact⟨gs.length,rfl,by omega,by omega⟩
 refine⟨_,rfl,l3,_,rfl,.inl (SqL.of h46),_,_,rfl,n,congrArg (fun x=>[V.int x]) en,by omega,by omega,?_⟩;rw[Hb];refine iH (lo:=0) (fun i σ H7=>∃(o9 o10:Option V)(vs:List V)(pl:List Plt),σ=[some (.ref a),some (.int w),some (.int h),some (.int z),some (.int (G:Nat)),some (.ref l3),some (.int (ns.getD 2 0)),some (.ref A),some (.ref lf),o9,o10]/\aw H5 H7/\H7 lf=some (.lst vs)/\Paired (PlF K H7) vs pl/\(pl.map (·.g)).Sublist (gs.take i)/\pl.length<=i/\∀p∈pl,xa ((List.range 6).map (c5 z)) rs p/\1<=p.last/\p.last<=1000000000/\PlG rs p) ⟨none,none,[],[],rfl,s6,af,.nil,.slnil,F4 _,fun _ y=>nomatch y⟩ ?_ ?_
 ·rintro i σ H7 hi ⟨o9,o10,vs,pl,rfl,s7,hf7,pp,sub,lpl,po⟩;rw[show(0:Int)+(i:Int)=((i:Nat):Int) by omega];refine fm ?_;intro kD2;have hS7:=(s4.trans (s5.trans s7)).seq hS;obtain⟨g,hg⟩:∃g,gs[i]?=some g:=⟨gs[i]'(by omega),Gh (by omega)⟩;have hat:atI (NV gs) ((i:Nat):Int)=some (.int (g:Nat)):=av (by rw[Gn,hg];rfl);have g64:g<2^64:=F5 (b1 g (Gb hg)).2 (GY (by decide) hwh);have tk1:gs.take (i+1)=gs.take i++[g]:=by rw[GI,hg];rfl
  refine⟨_,rfl,_,rfl,_,_,rfl,rfl,a,ns,8+i,rfl,hS7,?_⟩;refine⟨_,rfl,_,95,5,rfl,by decide,by decide,fun j hj=>⟨_,_,rfl,rfl,_,rfl,?_⟩⟩;refine bj (fun h1=>?_) (fun h1=>?_)
  ·have m0:=GP (ns.getD 2 0+((i:Nat):Int) / 2*1000003) (show((10:Int)^(9:Int).toNat)≠0 by decide);have m1:=GV (ns.getD 2 0+((i:Nat):Int) / 2*1000003) (show 0<((10:Int)^(9:Int).toNat) by decide);have e9:((10:Int)^(9:Int).toNat)=1000000000:=(by decide);refine⟨_,rfl,.inl ⟨rfl,_,SqL.of hf7⟩,_,rfl,_,rfl,l3,_,_,_,rfl,rfl,SqL.of (s7 _ _ (s5 _ _ h4)),hat,_,rfl,_,rfl,_,rfl,_,rfl,_,rfl,_,_,rfl,rfl,⟨by decide,by decide⟩,_,_,rfl,rfl,.inr ⟨by decide,by decide⟩,_,_,rfl,rfl,_,_,rfl,rfl,⟨by decide,by decide,by decide⟩,_,_,rfl,rfl,(by show(0:Int)<_;decide),_,_,rfl,rfl,?_⟩;refine⟨g,_,z,_,A,acc,rs,rfl,g64,SqL.of (s7 _ _ h5),Paired.imp (fun _ _=>eQ.tk s7.tk) pr,lr,fun v p H8 s8 hp ok nc n2 eg el=>?_⟩;have hf8:=s8 _ _ hf7;have la:=Gi pp;have tk:=TK.lst (o:=.lst (vs++[v])) hf8;refine⟨lf,_,_,rfl,rfl,hf8,aN (by omega),?_⟩;refine⟨_,_,vs++[v],pl++[p],rfl,?_,af,?_,?_,by rw[Gd,G7];omega,fun x hx=>?_⟩
   ·intro b o e;rw[az (fun y=>by rw[y,hlf]at e;cases e)];exact s8 _ _ (s7 _ _ e)
   ·exact Paired.app (Paired.imp (fun _ _ y=>(y.tk s8.tk).tk tk) pp) (.cons (hp.tk tk) .nil)
   ·rw[tk1,Gk];refine List.Sublist.append sub ?_;rw[HG,eg];exact List.Sublist.refl _
   ·rcases Gj.mp hx with y|y
    ·exact po x y
    ·rw[F2.mp y];refine⟨ok,?_,?_,Dv ok br lr nd13 (nc nd13) n2⟩
     ·rw[el];omega
     ·rw[el];omega
  ·refine⟨_,_,vs,pl,rfl,s7,hf7,pp,?_,by omega,po⟩;rw[tk1];exact sub.trans (List.sublist_append_left _ _)
 ·rintro σ H7 ⟨o9,o10,vs,pl,rfl,s7,hf7,pp,sub,lpl,po⟩;have subm:∀p∈pl,p.g∈gs:=fun p hp=>List.mem_of_mem_take (sub.subset (List.mem_map_of_mem hp));have O:qz w h ((List.range 6).map (c5 z)) rs pl:=⟨fun p hp=>⟨(po p hp).1,(b1 _ (subm p hp)).1,(b1 _ (subm p hp)).2,(po p hp).2.1,(po p hp).2.2.1⟩,by omega,List.Pairwise.sublist (sub.trans (List.take_sublist _ _)) b2,fun p hp=>b3 _ (subm p hp),br,lr⟩;have sH:=s4.trans (s5.trans s7);refine⟨fun σ' H'=>∃(vs:List V)(pl:List Plt),σ'=[some (.ref a),some (.int w),some (.int h),some (.int z),some (.int (G:Nat)),some (.ref l3),some (.int (ns.getD 2 0)),some (.ref A),some (.ref lf),o9,o10]/\aw H H'/\H' lf=some (.lst vs)/\Paired (PlF K H') vs pl/\qz w h ((List.range 6).map (c5 z)) rs pl/\∀p∈pl,PlG rs p,?_,?_⟩
  ·refine eJ ?_;intro kD3;refine⟨_,rfl,_,89,2,rfl,by decide,by decide,fun j hj=>⟨rfl,_,rfl,?_⟩⟩;refine bj (fun h1=>?_) (fun h1=>⟨vs,pl,rfl,sH,hf7,pp,O,fun p hp=>(po p hp).2.2.2⟩);refine⟨_,rfl,.inl ⟨rfl,_,SqL.of hf7⟩,lf,_,rfl,rfl,hf7,?_⟩;have tk:=TK.lst (o:=.lst vs.reverse) hf7;refine⟨vs.reverse,pl.reverse,rfl,aw.set fr sH,af,?_,O.rev,fun p hp=>(po p (List.mem_reverse.mp hp)).2.2.2⟩;exact Paired.rev (Paired.imp (fun _ _ y=>y.tk tk) pp)
  ·rintro σ' H8 ⟨vs,pl,rfl,s8,hf8,pp,O,OG⟩;exact⟨_,rfl,q lf vs pl rs _ s8 fr hf8 pp O OG pos0⟩
def ph(K:Frag)(mg:Str->Option Value):Sp:=fun vs H Q E=>∃(a y:Addr)(S:Sh)(g k:Str)(t b:Int),vs=[.ref a,.str g,.str k,.ref y]/\ShF K H a S/\nz S/\S.length<=50/\ShB 900 S/\SqT K H y [.int t,.int b]/\(0<b/\Bd 900 t/\Bd 900 b)/\((aG S g).1*b<t*(aG S g).2->E (kf mg "TooLittle") none H)/\(¬(aG S g).1*b<t*(aG S g).2->∀ss,ss.Perm ((iF S g k (t,b)).map (·.1))->sortedS ss=true->((¬∃p∈bY (iF S g k (t,b)) ss,FIN<p.2.2)->∀l H',aw H H'->ShF K H' l (bY (iF S g k (t,b)) ss)->Q (.ref l) H')/\((∃p∈bY (iF S g k (t,b)) ss,FIN<p.2.2)->∀H',aw H H'->E (kf mg "TooFine") none H'))
variable(iK:DfE P w K mg base 5 "hand_on" ["shares","giver","taker","part"] (ph K mg))
theorem pH:aD ["shares","giver","taker","part","held"] ["shares","giver","taker","part"] (aq (top 33)):=by trivial
include B oK fQ fP iJ i6 bP in
theorem wA(T:Tx K mg "hand_on" (top 33) ["shares","giver","taker","part"]):DfE P w K mg base 5 "hand_on" ["shares","giver","taker","part"] (ph K mg):=by
 have Eh:=iJ.df;refine T.dfE pH (by rintro _ _ _ _ ⟨a,y,S,g,k,t,b,rfl,hF,hok,hz,hB,hy,⟨b0,b1,b2⟩,qL,q⟩;rfl) ?_;rintro f _ A _ s H _ Q E hr ⟨a,y,S,g,k,t,b,rfl,hF,hok,hz,hB,hy,⟨b0,b1,b2⟩,qL,q⟩;refine aQ ?_;intro kX;refine ai 4 (ao (aH (zV iJ hr (BK fun _ _ _ h=>h) (aa (pv 4) ah)))) ?_;intro kR4 pR4;refine ai 3 (aj (cZ (aE fP hr (aa (pv 4) (aa (pv 2) (aa (pv 3) ah))))) pR4) ?_;intro kR3 pR3;refine ai 2 (aj (cZ (aE fQ hr (aa (pv 4) (aa (pv 1) (aa (pv 3) ah))))) pR3) ?_;intro kR2 pR2;refine ai 1 (aj (aA (i:=4) pH.nd rfl (by trivial) (bL (qx rfl) (by rfl) B.dict boot_dict (aa (pv 0) ah))) pR2) ?_;intro kR1 pR1;refine⟨_,(aj (aU (dP (aE oK hr (aa (aE i6 hr (aa (pv 0) (aa (pv 1) ah))) (aa (pv 3) ah)))) (ao (uS (W:=fun H1=>E (.ref bA) none H1) bP rfl (aa aS ah) (fun _ _ _ _ _ _ _ I hx ee=>xg I hx ee))) aK) pR1),?_⟩;rw[oN bP]at qL;have ag:=hok.at g;have bg:=hB.at (by decide) g;have B2:∀{z:Int},Bd 900 z->Bd 2000 z:=fun h=>h.mono (by decide);refine⟨_,rfl,_,rfl,a,S,g,rfl,hF.t,fun p hp=>?_⟩;refine⟨_,rfl,p,y,_,_,t,b,rfl,hp,hy,⟨ag.1.pos,b0⟩,⟨B2 bg.1,B2 bg.2,B2 b1,B2 b2⟩,_,rfl,?_⟩;refine bj (fun h1=>?_) (fun h1=>?_)
 ·exact⟨aP rfl,qL (Gu h1)⟩
 ·have h1':¬(aG S g).1*b<t*(aG S g).2:=fun z=>h1 (Gp z);obtain⟨o1,vs1,kv1,d1,d2,d3,d4⟩:=hF.dictE hok.nd;refine⟨_,rfl,a,o1,vs1,kv1,rfl,d1,d2,d3,fun d hd=>?_⟩;have hD:=d4 d hd;have s1:=aw.upd (o:=.dK (dR [] kv1)) hd;generalize (upd H d (.dK (dR [] kv1)))=H1 at hD s1 ⊢;have bm:=vL (f:=aG S g) (g:=(t,b)) bg.1 bg.2 b1 b2;have hB1:ShB 1801 (eF S g (cq (aG S g) (t,b))):=(hB.mono (by decide)).put g bm.1 (bm.2.mono (by decide));refine⟨_,rfl,_,rfl,_,rfl,d,y,S,g,t,b,rfl,hD,by omega,s1.tup hy,⟨ag.1.pos,B2 bg.1,B2 bg.2⟩,⟨b0,B2 b1,B2 b2⟩,fun H2 s2 hD2=>?_⟩;have S1:aw H H2:=fun c o e=>s2 c o (fun z=>by rw[z,hd]at e;cases e) (s1 c o e);have hok1:=hok.put g (jS ag.1.pos b0) (me (f:=aG S g) (g:=(t,b)) ag.1.pos b0 h1');have ak:=hok1.at k;have bk:=hB1.at (by decide) k;have hl1:=lU S g (cq (aG S g) (t,b));refine⟨_,rfl,_,rfl,_,rfl,d,y,_,k,t,b,rfl,hD2,by omega,S1.tup hy,⟨ak.1.pos,bk.1.mono (by decide),bk.2.mono (by decide)⟩,⟨b0,B2 b1,B2 b2⟩,fun H3 s3 hD3=>?_⟩;have S2:aw H H3:=fun c o e=>s3 c o (fun z=>by rw[z,hd]at e;cases e) (S1 c o e);have hl2:=jW S g k (t,b);refine⟨_,rfl,d,iF S g k (t,b),rfl,hD3,by omega,fun ss pm so nf l H' s' hF'=>?_,fun ss pm so fi H' s'=>?_⟩
  ·exact(q h1' ss pm so).1 nf l H' (S2.trans s') hF'
  ·exact(q h1' ss pm so).2 fi H' (S2.trans s')
def jw(K:Frag)(mg:Str->Option Value):Sp:=fun vs H Q E=>∃(a C dx sg pa:Addr)(num since:Int)(G:gZ)(tr:V)(v:V)(p:Plt),vs=[.ref a,v]/\H a=some (.ins C dx (om num since sg pa G tr))/\vT K mg C/\PlF K H v p/\ShG p.S/\nW G/\SqT K H pa [.int G.t,.int G.b]/\(ltG p G->(∀dx H',aw H H'->H' dx=some (XD dx [("who",.str (Str.ofString "")),("word",.str (Str.ofString "share"))])->E (kf mg "Falls") (some dx) H'))/\(¬ltG p G->∀ss,ss.Perm ((c7 p G).map (·.1))->sortedS ss=true->((¬∃q∈bY (c7 p G) ss,FIN<q.2.2)->∀l H',aw H H'->ShF K H' l (bY (c7 p G) ss)->Q (.ref l) H')/\((∃q∈bY (c7 p G) ss,FIN<q.2.2)->(∀dx H',aw H H'->H' dx=some (XD dx [("who",.str (Str.ofString "")),("word",.str (Str.ofString "fine"))])->E (kf mg "Falls") (some dx) H')))
variable(fT:DfT P w K mg base (CXn P w) 6 aL "handed" ["self","plot"] (jw K mg) [])
theorem pI:aD ["self","plot"] ["self","plot"] (aq fM):=by trivial
include B iK dO bI bP cJ cA cB m_TooLittle_TooLittle m_TooFine_TooFine o_TooFine_TooLittle in
theorem p6(T:TxM K aL "handed" "Give.handed" fM ["self","plot"] []):DfT P w K mg base (CXn P w) 6 aL "handed" ["self","plot"] (jw K mg) []:=by
 have Ei:=iK.df;refine T.dfN pI (by rintro _ _ _ _ ⟨a,C,dx,sg,pa,num,since,G,tr,v,p,rfl,ha,D,hp,hS,hG,hpa,q1,q2⟩;rfl) ?_;rintro f _ A _ s H _ Q E hr ⟨a,C,dx,sg,pa,num,since,G,tr,v,p,rfl,ha,D,hp,hS,hG,hpa,q1,q2⟩;refine⟨_,(ao (zL (fun _ _=>(ao (aH (zV iK hr (zX fun _ _ _ h=>h) (aa (aC (fO (K:=K) rfl) (pv 1) ae (fun _ _=>rfl)) (aa (tI (K:=K) rfl (pv 0) rfl) (aa (tI (K:=K) rfl (pv 0) rfl) (aa (tI (K:=K) rfl (pv 0) rfl) ah)))))))) (fun ok _=>(ao (rS (W:=RzW H E) (xA dO (cb.marked hr _) (aa aS (aa aS (aa aS ah)))) (fun _ _ _ _ _ _ _ ok I hx ee=>uz (I.unmarkedX ok) hx ee.1 ee.2) ok))) (fun ok _=>(ao (rS (W:=RzW H E) (xA dO (cb.marked hr _) (aa aS (aa aS (aa aS ah)))) (fun _ _ _ _ _ _ _ ok I hx ee=>uz (I.unmarkedX ok) hx ee.1 ee.2) ok))))),?_⟩;obtain⟨l,ls,lr,rfl,p1,p2,p3⟩:=id hp;refine⟨_,rfl,l,_,_,_,rfl,rfl,p1,av (j:=1) rfl,_,rfl,a,C,dx,_,_,rfl,ha,D.pap.cls,D.gv,rfl,_,rfl,a,C,dx,_,_,rfl,ha,D.pap.cls,D.tk,rfl,_,rfl,a,C,dx,_,_,rfl,ha,D.pap.cls,D.pt,rfl,ls,pa,p.S,G.gv,G.tk,G.t,G.b,rfl,p2,hS.ok,hS.len,hS.bd,hpa,⟨hG.b,hG.bt,hG.bb⟩,fun hlt=>⟨bA,oN bP,.inl ⟨Ax bP bP m_TooLittle_TooLittle,fun y σ' hσ hy=>?_⟩⟩,fun hn ss pm so=>⟨fun nf l' H' s' hF=>(q2 hn ss pm so).1 nf l' H' s' hF,fun fi H' s'=>⟨cz,oN cJ,.inr ⟨⟨cJ.ok,bA,bP,o_TooFine_TooLittle⟩,Ax cJ cJ m_TooFine_TooFine,fun y σ' hσ hy=>?_⟩⟩⟩⟩
 ·exact⟨aP rfl,vA cA cB af (aw.upd hy) fun dx' H'' s'' hd=>q1 hlt dx' H'' ((aw.upd hy).trans s'') hd⟩
 ·exact⟨aP rfl,vA cA cB af (s'.trans (aw.upd hy)) fun dx' H'' s'' hd=>(q2 hn ss pm so).2 fi dx' H'' ((s'.trans (aw.upd hy)).trans s'') hd⟩
def gj(K:Frag)(mg:Str->Option Value):Sp:=fun vs H Q E=>∃(a C dx sg pa:Addr)(num since:Int)(G:gZ)(tr:V)(v:V)(p:Plt)(rs:List (List Key))(ss:List Str),vs=[.ref a,v]/\H a=some (.ins C dx (om num since sg pa G tr))/\vT K mg C/\PlF K H v p/\PlG rs p/\ShG p.S/\nW G/\SqT K H pa [.int G.t,.int G.b]/\SqT K H sg (SV ss)/\(∀x∈ss,PyData.canLay0 (.str x)=true)/\AK K mg H Q E (mG p G num since ss)
variable(c9:DfT P w K mg base (CXn P w) 7 aL "done_untold" ["self","plot"] (gj K mg) [])
theorem gn:aD ["self","plot","made"] ["self","plot"] (aq cY):=by trivial
include B gu e8 fT bI in
theorem ke(T:TxM K aL "done_untold" "Give.done_untold" cY ["self","plot"] []):DfT P w K mg base (CXn P w) 7 aL "done_untold" ["self","plot"] (gj K mg) []:=by
 refine T.dfN gn (by rintro _ _ _ _ ⟨a,C,dx,sg,pa,num,since,G,tr,v,p,rs,ss,rfl,ha,D,hp,PG,hS,hG,hpa,hs,ls,q1,q2⟩;rfl) ?_;rintro f _ A _ s H _ Q E hr ⟨a,C,dx,sg,pa,num,since,G,tr,v,p,rs,ss,rfl,ha,D,hp,PG,hS,hG,hpa,hs,ls,q1,q2⟩;refine aQ ?_;intro kX;refine ai 2 (ao (aH (bp (aa (bp (aa (pv 1) ah)) (aa (bp (aa (pv 2) ah)) (aa (bp ah) ah)))))) ?_;intro kR2 pR2;refine ai 1 (aj (aA (i:=2) gn.nd rfl (by trivial) (bp (aa (aC aF (pv 1) ae (fun _ _=>rfl)) (aa (jD (CX:=CXn P w) (dvs:=[]) (ds:=[]) ["self","plot"] 6 (pv 0) (hr.mono (by decide)) .nil (jF fun _ _ _ h=>h) (aa (pv 1) ah)) (aa (aC aF (pv 1) ae (fun _ _=>rfl)) (aa (jE (pv 0) rfl) ah)))))) pR2) ?_;intro kR1 pR1;refine⟨_,(aj (cZ (wq gu hr (jF fun _ _ _ h=>h) (aa (pv 0) (aa (au Aa (cM (aa (jE (pv 0) rfl) ah)) (bZ ["burden"] [] (gg _ []) rfl (by rfl) rfl (by trivial) (by trivial) (aW (by rfl)) (cR (by rfl)) mN mN (b6 (by decide)) (dE (jD (CX:=CX0) (E:=E0) (dvs:=[]) (ds:=[]) ["self","plot"] 3 (pv 0) (hr.mono (by decide)) .nil nQ (aa (pv 1) ah))) (fun _ _ _ _=>aR (i:=0) (show(["burden"]:List Str).Nodup by trivial) rfl (Or.inl rfl) (Or.inr rfl)) (fun _ _ _ _=>cC) (fun _ _ _ _=>(aC (fO (K:=K) rfl) (pv 0) ae (fun _ _=>rfl))))) ah)))) pR1),?_⟩;obtain rfl:C=aL:=eD.uniq ⟨D.mgG⟩ bI;obtain⟨l,l1',lr,rfl,p1,p2,p3⟩:=id hp;refine⟨_,rfl,_,rfl,a,C,dx,_,_,rfl,ha,D.pap.cls,D.gv,rfl,aP rfl,fun l0 hl0=>?_⟩;have s0:=aw.upd (o:=.lst [.str G.gv]) hl0;have h00:(upd H l0 (.lst [.str G.gv])) l0=some (.lst [.str G.gv]):=af;generalize (upd H l0 (.lst [.str G.gv]))=H0 at s0 h00 ⊢;refine⟨_,rfl,a,C,dx,_,_,rfl,(s0 _ _ ha),D.pap.cls,e8,rfl,_,rfl,a,C,dx,sg,pa,num,since,G,tr,_,p,rs,rfl,s0 _ _ ha,D,hp.e.tk s0.tk,PG.nm,fun l1 ys T H1 s1 hl1 py bT lT hB=>?_⟩;have ly:=Gi py;have bF:∀r∈T.filter (nv since G.tk),fE r:=fun r hr=>bT r (Hy.mp hr).1;have lF:(T.filter (nv since G.tk)).length<=59:=GA (Hk _ _) lT;have eN:(T.filter (nv since G.tk)).map wN=de since G.tk T:=rfl;generalize (T.filter (nv since G.tk))=F at py ly bF lF eN;refine⟨l1,rfl,⟨_,SqL.of hl1⟩,fun A hA=>?_⟩;have sA:∀o:HO,aw H1 (upd H1 A o):=fun o=>aw.upd hA;refine qq (K:=K) (a:=l1) (xs:=ys) (fun i acc H2=>H2=upd H1 A (.lst acc)/\acc=SV ((F.take i).map wN)) ⟨rfl,rfl⟩ (fun i acc H2 _ ⟨e,_⟩=>by rw[e];exact SqL.of ((sA _) _ _ hl1)) ?_ ?_
 ·rintro i y acc H2 hi ⟨rfl,rfl⟩;refine fo ?_;intro kq1 kr1;obtain⟨r,hr,bur⟩:=aX py hi;obtain⟨ab,zs,rfl,hz,ez,_⟩:=uu (bF r (Gb hr)) bur;have i59:i<ys.length:=(Gr.mp hi).1;refine⟨_,rfl,ab,zs,_,_,rfl,rfl,(sA _).tup hz,ez,af,aN (by show(List.map _ _).length<=_;rw[FY,FY,G0];omega),by rw[bq],?_⟩;rw[GI,hr,GX,Gk];show _=List.map _ (_++_);rw[Gk];rfl
 rintro acc H2 ⟨rfl,rfl⟩;rw[ly,GK,eN];have s2:=s0.trans (s1.trans (sA (.lst (SV (de since G.tk T)))));have hA2:(upd H1 A (.lst (SV (de since G.tk T)))) A=some (.lst (SV (de since G.tk T))):=af;have h02:=(s1.trans (sA (.lst (SV (de since G.tk T))))) _ _ h00;generalize (upd H1 A (.lst (SV (de since G.tk T))))=H2 at s2 hA2 h02 ⊢;have lN:(de since G.tk T).length<=59:=by rw[<-eN,FY];exact lF
 refine⟨l0,A,_,_,rfl,rfl,h02,hA2,Nat.le_of_lt (aN (by show 1+(List.map _ _).length<=1000;rw[FY];omega)),fun pc hpc=>?_⟩;have s3:=s2.trans (aw.upd (o:=.lst ([.str G.gv]++SV (de since G.tk T))) hpc);have hpc3:(upd H2 pc (.lst ([.str G.gv]++SV (de since G.tk T)))) pc=some (.lst (SV (G.gv::de since G.tk T))):=af;generalize (upd H2 pc (.lst ([.str G.gv]++SV (de since G.tk T))))=H3 at s3 hpc3 ⊢;have lays:∀x∈G.gv::de since G.tk T,PyData.canLay0 (.str x)=true:=fun x hx=>by
  rcases Gg.mp hx with e|e
  ·rw[e];exact hG.gv
  ·rw[<-eN]at e;obtain⟨r,hr,rfl⟩:=Ge.mp e;obtain⟨v',hv',bur⟩:=Paired.right py hr;obtain⟨_,_,_,_,_,hl⟩:=uu (bF r hr) bur;exact hl
 refine⟨a,C,dx,sg,pc,_,ss,G.gv::de since G.tk T,rfl,s3 _ _ ha,D.pap,rfl,rfl,s3.tup hs,SqL.of hpc3,ls,lays,fun hw=>?_,fun x hx dx' H' s' hd=>q2 _ _ dx' H' (s3.trans s') (.sign hB hx) hd⟩;replace ha:=s3 _ _ ha;have hp3:=hp.tk s3.tk;refine⟨_,rfl,l,_,_,_,rfl,rfl,s3.tup p1,av (j:=0) rfl,_,rfl,a,C,dx,_,_,rfl,ha,D.pap.cls,fT,rfl,_,rfl,a,C,dx,sg,pa,num,since,G,tr,_,p,rfl,ha,D,hp3,hS,hG,s3.tup hpa,fun hlt dx' H' s' hd=>q2 _ _ dx' H' (s3.trans s') (.share hB hw hlt) hd,fun hn tt pm so=>⟨fun nf ln H4 s4 hF=>?_,fun fi dx' H' s' hd=>q2 _ _ dx' H' (s3.trans s') (.fine hB hw hn pm so fi) hd⟩⟩;have s34:=s3.trans s4;replace ha:=s4 _ _ ha;refine⟨_,rfl,l,_,_,_,rfl,rfl,s34.tup p1,av (j:=2) rfl,_,rfl,a,C,dx,_,_,rfl,ha,D.pap.cls,D.pap.num,rfl,aP rfl,fun tm htm=>?_⟩;have s5:=aw.upd (o:=.tup [.int (p.g:Nat),.ref ln,.ref lr,.int num]) htm;have ew:PlE K (upd H4 tm (.tup [.int (p.g:Nat),.ref ln,.ref lr,.int num])) (.ref tm) ⟨p.g,bY (c7 p G) tt,p.R,num⟩:=⟨tm,ln,lr,rfl,SqT.of af,hF.t.tk s5.tk,p3.tk (s34.trans s5).tk⟩;refine⟨_,rfl,aP rfl,fun t1 ht1=>?_⟩;have s6:=aw.upd (o:=.tup [.ref l]) ht1;refine⟨_,rfl,aP rfl,fun t2 ht2=>?_⟩;have s7:=aw.upd (o:=.tup [.ref tm]) ht2;refine⟨aP rfl,fun t3 ht3=>?_⟩;have s8:=aw.upd (o:=.tup []) ht3;refine⟨aP rfl,fun t4 ht4=>?_⟩;have s9:=aw.upd (o:=.tup [.ref t1,.ref t2,.ref t3]) ht4;have s69:=s6.trans (s7.trans (s8.trans s9));have e1:PlE K _ (.ref l) p:=PlE.tk (s34.trans (s5.trans s69)).tk hp.e;have e2:=PlE.tk s69.tk ew;exact q1 p ⟨p.g,bY (c7 p G) tt,p.R,num⟩ _ _ (s34.trans (s5.trans s69)) (.does hB hw hn pm so nf) (.tup (SqT.of af) (.cons (.tup ((s7.trans (s8.trans s9)).tup (SqT.of af)) (.cons e1.isD .nil)) (.cons (.tup ((s8.trans s9).tup (SqT.of af)) (.cons e2.isD .nil)) (.cons (.tup (s9.tup (SqT.of af)) .nil) .nil))))
def lK(K:Frag)(mg:Str->Option Value):Sp:=fun vs H Q E=>∃(a C dx sg pa:Addr)(num since:Int)(G:gZ)(tr:V)(lp:Addr)(fl:V)(ss:List Str)(xs:List V)(ps:List Plt)(rs:List (List Key)),vs=[.ref a,fl,.ref lp,.non]/\H a=some (.ins C dx (om num since sg pa G tr))/\vT K mg C/\SqT K H pa [.int G.t,.int G.b]/\SqT K H sg (SV ss)/\(∀x∈ss,PyData.canLay0 (.str x)=true)/\SqL K H lp xs/\Paired (PlF K H) xs ps/\(∀p∈ps,PlG rs p/\ShG p.S)/\nW G/\AK K mg H Q E (g4 ps G num since ss)
variable(ig:DfT P w K mg base (CXn P w) 8 aL "done" ["self","floor","plots","told"] (lK K mg) [.none])
theorem lQ:aD ["self","floor","plots","told","plot"] ["self","floor","plots","told"] (aq hJ):=by trivial
include B gw c9 bI in
theorem tQ(T:TxM K aL "done" "Give.done" hJ ["self","floor","plots","told"] [.none]):DfT P w K mg base (CXn P w) 8 aL "done" ["self","floor","plots","told"] (lK K mg) [.none]:=by refine T.dfN lQ (by rintro _ _ _ _ ⟨a,C,dx,sg,pa,num,since,G,tr,lp,fl,ss,xs,ps,rs,rfl,ha,D,hpa,hs,ls,hl,pp,hPG,hG,q1,q2⟩;rfl) ?_;rintro f _ A _ s H _ Q E hr ⟨a,C,dx,sg,pa,num,since,G,tr,lp,fl,ss,xs,ps,rs,rfl,ha,D,hpa,hs,ls,hl,pp,hPG,hG,q1,q2⟩;refine aQ ?_;intro kX;refine ai 2 (ao BA) ?_;intro kR2 pR2;refine ai 1 (aj (aU (aJ mU (pv 3) dA (aI _)) (ao (aH (jD (CX:=CXn P w) (dvs:=[]) (ds:=[]) ["self","plot"] 7 (pv 0) (hr.mono (by decide)) .nil (jF fun _ _ _ h=>h) (aa (pv 4) ah)))) aK) pR2) ?_;intro kR1 pR1;refine⟨_,(aj (aA (i:=4) lQ.nd rfl (by trivial) (wq gw hr (jF fun _ _ _ h=>h) (aa (pv 2) (aa (jE (pv 0) rfl) (aa (jE (pv 0) rfl) ah))))) pR1),?_⟩;obtain rfl:C=aL:=eD.uniq ⟨D.mgG⟩ bI;refine⟨_,rfl,_,rfl,a,C,dx,_,_,rfl,ha,D.pap.cls,D.at',rfl,_,rfl,a,C,dx,_,_,rfl,ha,D.pap.cls,D.gr,rfl,lp,xs,ps,G.c,G.gr,rfl,hl,pp,hG.c,fun hno dx' H' s' hd=>q2 _ _ dx' H' s' (.waste hno) hd,fun p v hfd mp hp=>⟨fun hg=>?_,fun h1 h2 dx' H' s' hd=>q2 _ _ dx' H' s' (.other hfd h1 h2) hd⟩⟩;obtain⟨PG,hS⟩:=hPG p mp;refine⟨_,rfl,rfl,_,rfl,jh ?_⟩;exact⟨_,rfl,a,C,dx,_,_,rfl,ha,D.pap.cls,c9,rfl,_,rfl,a,C,dx,sg,pa,num,since,G,tr,_,p,rs,ss,rfl,ha,D,hp,PG,hS,hG,hpa,hs,ls,fun p' q' v' H' s' r' hd=>q1 p' q' v' H' s' (.of hfd hg r') hd,fun w x dx' H' s' r' hd=>q2 w x dx' H' s' (.of hfd hg r') hd⟩
def nH(K:Frag)(mg:Str->Option Value):Sp:=fun vs H Q _=>∃(a C dx sg pa:Addr)(num since:Int)(G:gZ)(tr:V)(lp:Addr)(fl:V)(ss:List Str)(xs:List V)(ps:List Plt)(rs:List (List Key)),vs=[.ref a,fl,.ref lp]/\H a=some (.ins C dx (om num since sg pa G tr))/\vT K mg C/\SqT K H pa [.int G.t,.int G.b]/\SqT K H sg (SV ss)/\(∀x∈ss,PyData.canLay0 (.str x)=true)/\SqL K H lp xs/\Paired (PlF K H) xs ps/\(∀p∈ps,PlG rs p/\ShG p.S)/\nW G/\∀o v H',aw H H'->g4 ps G num since ss o->IsD K H' (outD o) v->Q v H'
variable(gW:Df P w K mg base 9 "_law_done" ["_law_paper","_law_floor","_law_plots"] (nH K mg))
theorem fW:aD ["_law_paper","_law_floor","_law_plots","_law_found","e"] ["_law_paper","_law_floor","_law_plots"] (aq (top 66)):=by trivial
include B ig bI cA mn gq hU in
theorem u6(T:Tx K mg "_law_done" (top 66) ["_law_paper","_law_floor","_law_plots"]):Df P w K mg base 9 "_law_done" ["_law_paper","_law_floor","_law_plots"] (nH K mg):=by
 refine T.df fW (by rintro _ _ _ _ ⟨a,C,dx,sg,pa,num,since,G,tr,lp,fl,ss,xs,ps,rs,rfl,ha,D,hpa,hs,ls,hl,pp,hPG,hG,q⟩;rfl) ?_;rintro f _ A _ s H _ Q E hr ⟨a,C,dx,sg,pa,num,since,G,tr,lp,fl,ss,xs,ps,rs,rfl,ha,D,hpa,hs,ls,hl,pp,hPG,hG,q⟩;refine aQ ?_;intro kX;refine ai 2 (ao (aH (pv 3))) ?_;intro kR2 pR2;refine ai 1 (aj (Bz (m:=4) fW.nd rfl rfl (fun _ _=>(ao (aA (i:=3) fW.nd rfl (by trivial) (bp (aa aS (aa (uV (CX:=CXn P w) (dvs:=[V.non]) (ds:=[Value.none]) (P:=P) (w:=w) (K:=K) (mg:=mg) (base:=base) rfl rfl rfl rfl rfl ["self","floor","plots","told"] 8 (pv 0) (hr.mono (by decide)) (.cons rfl .nil) (yn fun _ _ _ h=>h) (aa (pv 1) (aa (pv 2) ah))) ah)))))) (fun _=>(ao (aA (i:=3) fW.nd rfl (by trivial) (bp (aa aS (aa (xy (K:=K) rfl (pv 4)) (aa (xy (K:=K) rfl (pv 4)) ah)))))))) pR2) ?_;intro kR1 pR1;refine⟨_,(aj (aA (i:=3) fW.nd rfl (by trivial) dA) pR1),?_⟩;obtain rfl:C=aL:=eD.uniq ⟨D.mgG⟩ bI;refine⟨_,rfl,a,C,dx,_,_,rfl,ha,D.pap.cls,ig,rfl,_,rfl,_,rfl,a,C,dx,sg,pa,num,since,G,tr,lp,fl,ss,xs,ps,rs,rfl,ha,D,hpa,hs,ls,hl,pp,hPG,hG,fun p p' v H' s' hr' hd=>?_,fun w x dx' H' s' hr' hd=>?_⟩
 ·refine⟨aP rfl,fun t ht=>?_⟩;have s2:=aw.upd (o:=.tup [.str "does",v]) ht;exact⟨_,rfl,q (.does p p') _ _ (s'.trans s2) hr' (.tup (SqT.of af) (.cons (.str _) (.cons (IsD.same s2 hd) .nil)))⟩
 ·refine⟨bc,vI cA,mn,fun y σ' hσ hy=>?_⟩;obtain⟨o0,o1,o2,o3,o4,rfl⟩:=st5 hσ;have hd2:(upd H' y (XN y bc (some dx'))) dx'=some (XD dx' [("who",.str x),("word",.str w)]):=by
   rw[az (fun z=>by rw[z,hy]at hd;cases hd)];exact hd
  refine⟨_,rfl,y,bc,dx',_,_,rfl,af,hd2,gq,rfl,_,rfl,y,bc,dx',_,_,rfl,af,hd2,hU,rfl,aP rfl,fun t ht=>?_⟩;have s2:=(aw.upd (o:=XN y bc (some dx')) hy).trans (aw.upd (o:=.tup [.str "falls",.str w,.str x]) ht);exact⟨_,rfl,q (.falls w x) _ _ (s'.trans s2) hr' (.tup (SqT.of af) (.cons (.str _) (.cons (.str _) (.cons (.str _) .nil))))⟩
def lJ(K:Frag):Sp:=spA K 11
variable(f9:Df P w K mg base 12 "_law_alike" ["_law_found","_law_due"] (lJ K))
theorem lO:aD ["_law_found","_law_due","_law_k"] ["_law_found","_law_due"] (aq (top 64)):=by trivial
include B cV in
theorem sS(T:Tx K mg "_law_alike" (top 64) ["_law_found","_law_due"]){m k:Nat}(hk:1<=k)(Fb:Df P w K mg base k "_law_alike" ["_law_found","_law_due"] (spA K m)):Df P w K mg base (k+1) "_law_alike" ["_law_found","_law_due"] (spA K (m+1)):=by
 refine T.df lO (by rintro _ _ _ _ ⟨v,u,d,rfl,hv,hu',pl,dp,q⟩;rfl) ?_;rintro f _ A _ s H _ Q E hr ⟨v,u,d,rfl,hv,hu',pl,dp,q⟩;refine aQ ?_;intro kX;refine ai 3 (ao (aH (mQ (aE cV hr (aa (pv 0) ah) (hj:=by omega)) (iT (bJ ck (pv 0) (pv 1) (aI _)))))) ?_;intro kR3 pR3;refine ai 2 (aj (aU (dP (aT j7 (by rfl) B.isinstance boot_isinstance (aa (pv 1) (aa (jQ (x:="str") (v:=.ty "str") (by rfl) B.str boot_str rfl) ah)))) (ao (aH (mQ (aT j7 (by rfl) B.isinstance boot_isinstance (aa (pv 0) (aa (jQ (x:="str") (v:=.ty "str") (by rfl) B.str boot_str rfl) ah))) (iT (bJ ck (pv 0) (pv 1) (aI _)))))) aK) pR3) ?_;intro kR2 pR2;refine ai 1 (aj (aU (aJ mU (pv 1) dA (aI _)) (ao (aH (bJ mU (pv 0) dA (aI _)))) aK) pR2) ?_;intro kR1 pR1;refine⟨_,(aj (aU (dP (aT j7 (by rfl) B.isinstance boot_isinstance (aa (pv 1) (aa (jQ (x:="tuple") (v:=.ty "tuple") (by rfl) B.tuple boot_tuple rfl) ah)))) (aj (aU ((uQ (tD (dP (aT j7 (by rfl) B.isinstance boot_isinstance (aa (pv 0) (aa (jQ (x:="tuple") (v:=.ty "tuple") (by rfl) B.tuple boot_tuple rfl) ah))))) (pJ (aJ kB (aT bG (by rfl) B.len Ht (aa (pv 0) ah)) (aT bG (by rfl) B.len Ht (aa (pv 1) ah)) (aI _)))).pt) (ao (aH uW)) aK) (aj (dz GH rfl (bU (by rfl) B.range (aa (aT bG (by rfl) B.len Ht (aa (pv 1) ah)) ah)) (aR (i:=2) lO.nd rfl (by trivial)) (ao (aU (tD (dP (aE Fb hr (aa (aC aF (pv 0) (pv 2) (fun _ _=>rfl)) (aa (aC aF (pv 1) (pv 2) (fun _ _=>rfl)) ah)) (hj:=by omega)))) (ao (aH uW)) aK))) (ao (aH uW)))) aK) pR1),?_⟩;have kt:kitOne K (.type "tuple") (.type "tuple")=some true:=by kernel_rfl
 cases pl with
 |tup ln pls=>
  obtain⟨a,vs,rfl,ha,hvs⟩:∃a vs,v=.ref a/\SqT K H a vs/\eA K H _ vs:=by
   cases hv with
   |tup h1 h2=>exact⟨_,_,rfl,h1,h2⟩
  obtain⟨b,us,rfl,hb,hus⟩:∃b us,u=.ref b/\SqT K H b us/\eA K H _ us:=by
   cases hu' with
   |tup h1 h2=>exact⟨_,_,rfl,h1,h2⟩
  have lv:=hvs.len;have lu:=hus.len;refine⟨_,rfl,.inr ⟨_,.ty "tuple",b,us,true,_,rfl,rfl,hb,rfl,(fun _ h=>h),kt,_,rfl,jh ?_⟩⟩;refine⟨_,rfl,.inr ⟨_,.ty "tuple",a,vs,true,_,rfl,rfl,ha,rfl,(fun _ h=>h),kt,_,rfl,fq ?_⟩⟩;refine⟨_,rfl,a,vs,rfl,.inr ha,_,rfl,b,us,rfl,.inr hb,rfl,_,rfl,?_⟩;refine bj (fun h=>absurd h (by rw[lv,lu];simp)) (fun _=>?_);have small:us.length<=1000:=by omega
  refine⟨_,rfl,b,us,rfl,.inr hb,_,rfl,by omega,by omega,iH (lo:=0) (fun i σ H2=>∃o2:Option V,σ=[some (.ref a),some (.ref b),o2]/\H2=H) ⟨none,rfl,rfl⟩ ?_ ?_⟩
  ·rintro i σ H2 hi ⟨o2,rfl,rfl⟩;refine fm ?_;intro kD1;have iu:i<us.length:=(by omega);obtain⟨x,hx⟩:∃x,vs[i]?=some x:=⟨vs[i]'(by omega),by simp⟩;obtain⟨y,hy⟩:∃y,us[i]?=some y:=⟨us[i]'iu,by simp⟩;obtain⟨d1,e1,hd1⟩:=hvs.at hx;obtain⟨d2,e2,hd2⟩:=hus.at hy;rw[e1]at e2;cases e2;have ax:atI vs (0+(i:Int))=some x:=(by rw[show(0:Int)+(i:Int)=((i:Nat):Int) by omega];exact av hx);have ay:atI us (0+(i:Int))=some y:=(by rw[show(0:Int)+(i:Int)=((i:Nat):Int) by omega];exact av hy);refine⟨_,rfl,_,rfl,a,_,_,_,rfl,rfl,ha,ax,_,rfl,_,rfl,b,_,_,_,rfl,rfl,hb,ay,x,y,_,rfl,hd1,hd2,pls.at e1,?_,_,rfl,fq ⟨_,rfl,rfl⟩⟩;have:=DZ e1;have dp':PyData.depthAll _+1<m+1:=dp;omega
  ·rintro σ H2 ⟨o2,rfl,rfl⟩;exact q
 |non=>
  cases hv;cases hu';have k0:kitOne K (.type "NoneType") (.type "tuple")=some false:=by kernel_rfl
  refine⟨_,rfl,.inl ⟨_,_,_,_,rfl,gX.non,k0,_,rfl,fq ?_⟩⟩;refine⟨_,rfl,rfl,_,rfl,jh ?_⟩;exact⟨_,rfl,rfl,q⟩
 |str x=>
  cases hv;cases hu';have k0:kitOne K (.type "str") (.type "tuple")=some false:=by kernel_rfl
  have k1:kitOne K (.type "str") (.type "str")=some true:=by kernel_rfl
  refine⟨_,rfl,.inl ⟨_,_,_,_,rfl,gX.str x,k0,_,rfl,fq ?_⟩⟩;refine⟨_,rfl,rfl,_,rfl,fq ?_⟩;refine⟨_,rfl,.inl ⟨_,_,_,_,rfl,gX.str x,k1,_,rfl,jh ?_⟩⟩;refine⟨_,rfl,.inl ⟨_,_,_,_,rfl,gX.str x,k1,_,rfl,jh ?_⟩⟩;refine⟨_,rfl,_,rfl,rfl,?_⟩;rw[Gp rfl];exact q
 |int i=>
  cases hv;cases hu';have k0:kitOne K (.type "int") (.type "tuple")=some false:=by kernel_rfl
  have k1:kitOne K (.type "int") (.type "str")=some false:=by kernel_rfl
  refine⟨_,rfl,.inl ⟨_,_,_,_,rfl,gX.int i,k0,_,rfl,fq ?_⟩⟩;refine⟨_,rfl,rfl,_,rfl,fq ?_⟩;refine⟨_,rfl,.inl ⟨_,_,_,_,rfl,gX.int i,k1,_,rfl,fq ?_⟩⟩;refine⟨_,rfl,_,_,rfl,gX.int i,_,rfl,jh ?_⟩;refine⟨_,rfl,_,rfl,rfl,?_⟩;rw[Gp rfl];exact q
include B cV in
theorem lS(T:Tx K mg "_law_alike" (top 64) ["_law_found","_law_due"]):∀m:Nat,Df P w K mg base (m+1) "_law_alike" ["_law_found","_law_due"] (spA K m)
 | 0=>T.dfF (fun vs H Q E ⟨_,_,_,_,_,_,_,dp,_⟩=>absurd dp (Nat.not_lt_zero _))
 |m+1=>sS B cV T (by omega) (lS T m)
include B cV in
theorem tP(T:Tx K mg "_law_alike" (top 64) ["_law_found","_law_due"]):Df P w K mg base 12 "_law_alike" ["_law_found","_law_due"] (lJ K):=lS B cV T 11
def km(K:Frag)(mg:Str->Option Value):Sp:=fun vs H Q _=>∃(a lp:Addr)(ms:List Int)(w h:Nat)(way:Int)(xs:List V)(ps:List Plt)(rs:List (List Key)),vs=[.ref a,.ref lp,.int w,.int h,.int way]/\SqL K H a (ms.map V.int)/\(0<w/\w<=8/\0<h/\h<=8)/\SqL K H lp xs/\Paired (PlF K H) xs ps/\qz w h ((List.range 6).map (c5 way)) rs ps/\(∀p∈ps,PlG rs p)/\(∀r∈rs,bh r≠0)/\∀H',aw H H'->Q (.bl true) H'
variable(gA:Df P w K mg base 13 "_law_agrees" ["_law_script","_law_plots","_law_wide","_law_high","_law_way"] (km K mg))
theorem aO:aD ["_law_script","_law_plots","_law_wide","_law_high","_law_way","_law_at_here","_law_plot","_law_cell","_law_names","_law_giver","_law_taker","_law_part","_law_ground","_law_number","_law_since_here","_law_signed","_law_row","_law_trust","_law_paper","_law_due","_law_handed","_law_found"] ["_law_script","_law_plots","_law_wide","_law_high","_law_way"] (aq (top 76)):=by trivial
include B mD cF aM dF i8 ia fA gW f9 bM aB eY cu di i9 cW bI qj ur cO dv cN fK dw du dZ cP dq eW in
theorem rf(T:Tx K mg "_law_agrees" (top 76) ["_law_script","_law_plots","_law_wide","_law_high","_law_way"]):Df P w K mg base 13 "_law_agrees" ["_law_script","_law_plots","_law_wide","_law_high","_law_way"] (km K mg):=by
 refine T.df aO (by rintro _ _ _ _ ⟨a,lp,ms,w,h,way,xs,ps,rs,rfl,hS,⟨hw,hw8,hh,hh8⟩,hl,ppF,O,hG,hnz,q⟩;rfl) ?_;rintro f _ A _ s H _ Q E hr ⟨a,lp,ms,w,h,way,xs,ps,rs,rfl,hS,⟨hw,hw8,hh,hh8⟩,hl,ppF,O,hG,hnz,q⟩;have hu:=hr.units;refine aQ ?_;intro kX;refine ai 21 (ao (aH (aE f9 hr (aa (aE gW hr (aa (pv 18) (aa (bp (aa (pv 2) (aa (pv 3) ah))) (aa (bL (uq rfl) (by rfl) B.list boot_list (aa (bL rq (by rfl) i9 (by trivial) (aa (pv 1) ah)) ah)) ah)))) (aa (pv 19) ah))))) ?_;intro kR21 pR21;refine ai 20 (aj (aU ((uQ (aJ (wt hu) (pv 20) (pv 1) (aI _)) (pJ (tD (dP (aE f9 hr (aa (pv 21) (aa (pv 19) ah))))))).pt) (ao (aH uW)) aK) pR21) ?_;intro kR20 pR20;refine ai 19 (aj (aA (i:=21) aO.nd rfl (by trivial) (aE gW hr (aa (pv 18) (aa (bp (aa (pv 2) (aa (pv 3) ah))) (aa (pv 20) ah))))) pR20) ?_;intro kR19 pR19;refine ai 18 (aj (aA (i:=20) aO.nd rfl (by trivial) (bL uo (by rfl) B.list boot_list (aa (pv 1) ah))) pR19) ?_;intro kR18 pR18;refine ai 17 (aj (aA (i:=19) aO.nd rfl (by trivial) (aE fA hr (aa (pv 16) (aa (pv 1) ah)))) pR18) ?_;intro kR17 pR17;refine ai 16 (aZ (aU (aJ jR (pv 17) dA (aI _)) (ao (aA (i:=18) aO.nd rfl (by trivial) (zQ qj di hr (aa (pv 13) (aa (pv 14) (aa (pv 15) (aa (pv 5) (aa (pv 9) (aa (pv 10) (aa (pv 11) (aa (pv 12) (aa (pv 17) ah)))))))))))) aK) pR17) ?_;intro kR16 pR16;refine ai 15 (aj (aA (i:=18) aO.nd rfl (by trivial) (zR qj di hr (aa (pv 13) (aa (pv 14) (aa (pv 15) (aa (pv 5) (aa (pv 9) (aa (pv 10) (aa (pv 11) (aa (pv 12) ah)))))))))) pR16) ?_;intro kR15 pR15;refine ai 14 (aj (aA (i:=17) aO.nd rfl (by trivial) (aC bO (cM (aa dA (aa ae (aa (pv 14) (aa (au gc ae ae) ah))))) (aE aB hr (aa (pv 7) (aa ae (aa ae ah)))) (fun _ _=>rfl))) pR15) ?_;intro kR14 pR14;refine ai 13 (aj (aA (i:=16) aO.nd rfl (by trivial) (bp (aa aS (aa (pv 13) (aa (pv 14) (aa (pv 15) (aa (pv 5) (aa (pv 9) (aa (pv 10) (aa (pv 11) (aa (pv 12) ah))))))))))) pR14) ?_;intro kR13 pR13;refine ai 12 (aZ (aU (aJ ck (aE aB hr (aa (pv 7) (aa ae (aa ae ah)))) ae (aI _)) (ao (aA (i:=15) aO.nd rfl (by trivial) (bp (aa (pv 9) ah)))) aK) pR13) ?_;intro kR12 pR12;refine ai 11 (aj (aA (i:=14) aO.nd rfl (by trivial) (aE ia hr (aa (aE aM hr (aa (pv 0) (aa ae ah))) (aa (pv 6) (aa (pv 14) ah))))) pR12) ?_;intro kR11 pR11;refine ai 10 (aj (wm (aE i8 hr (aa (pv 0) (aa (pv 4) ah))) (tH rfl (fu (aR (i:=13) aO.nd rfl (by trivial)) (fu (aR (i:=14) aO.nd rfl (by trivial)) (fu (aR (i:=15) aO.nd rfl (by trivial)) oA))))) pR11) ?_;intro kR10 pR10;refine ai 9 (aj (aA (i:=12) aO.nd rfl (by trivial) (aE dF hr (aa (aE aM hr (aa (pv 0) (aa ae ah))) (aa (pv 5) (aa (pv 6) (aa (pv 2) (aa (pv 3) ah))))))) pR10) ?_;intro kR9 pR9;refine ai 8 (aZ (aU (aJ jR (pv 6) dA (aI _)) (ao (aA (i:=11) aO.nd rfl (by trivial) (aE eY hr (aa (aE aM hr (aa (pv 0) (aa ae ah))) (aa (aE cu hr (aa (aC aF (pv 6) ae (fun _ _=>rfl)) (aa (pv 9) ah))) ah))))) aK) pR9) ?_;intro kR8 pR8;refine ai 7 (aj (aA (i:=11) aO.nd rfl (by trivial) (bp (aa ae (aa (au aY ae (au bf (pv 7) ae)) ah)))) pR8) ?_;intro kR7 pR7;refine ai 6 (aj (aA (i:=10) aO.nd rfl (by trivial) (aC bO (pv 8) (au bf (au aY (au aY (kA GL PySem.F.slot_list_index PySem.F.type_list_index (Aj hu) (pv 8) (aa (pv 9) ah)) ae) (aE aB hr (aa (pv 7) (aa ae (aa ae ah))))) ae) (fun _ _=>rfl))) pR7) ?_;intro kR6 pR6;refine ai 5 (aZ (aU ((ip (aJ jR (pv 6) dA (aI _)) (hV (aJ jG (aE aB hr (aa (pv 7) (aa ae (aa ae ah)))) ae (aI _)))).pt) (ao (aA (i:=9) aO.nd rfl (by trivial) (aC aF (aC aF (aC aF (pv 6) ae (fun _ _=>rfl)) (aE aB hr (aa (pv 7) (aa ae (aa (aT bG (by rfl) B.len Ht (aa (aC aF (pv 6) ae (fun _ _=>rfl)) ah)) ah)))) (fun _ _=>rfl)) ae (fun _ _=>rfl)))) aK) pR6) ?_;intro kR5 pR5;refine ai 4 (aj (aA (i:=9) aO.nd rfl (by trivial) (aC bO (pv 8) (aE aB hr (aa (pv 7) (aa ae (aa ae ah)))) (fun _ _=>rfl))) pR5) ?_;intro kR4 pR4;refine ai 3 (aj (oz (i:=8) aO.nd rfl (by trivial) ["_law_k"] [("_law_way",4)] (gg _ ["_law_way"]) rfl (by rfl) rfl (by trivial) (by trivial) (aW (by rfl)) (cR (by rfl)) (mC ⟨rfl,rfl⟩ mN) (mC rfl mN) (b6 (by decide)) (bU (by rfl) B.range (aa ae ah)) (fun _ _ _ _=>aR (i:=0) (show(["_law_k","_law_way"]:List Str).Nodup by trivial) rfl (Or.inl rfl) (Or.inr rfl)) (fun _ _ _ _=>cC) (fun _ _ _ _=>(aE bM hr (aa (pv 0) (aa (pv 1) ah))))) pR4) ?_;intro kR3 pR3;refine ai 2 (aj (aA (i:=7) aO.nd rfl (by trivial) (aE aM hr (aa (pv 0) (aa ae ah)))) pR3) ?_;intro kR2 pR2;refine ai 1 (aj (aA (i:=6) aO.nd rfl (by trivial) (aE cF hr (aa (pv 1) (aa (pv 5) ah)))) pR2) ?_;intro kR1 pR1;refine⟨_,(aj (aA (i:=5) aO.nd rfl (by trivial) (aE mD hr (aa (aE aM hr (aa (pv 0) (aa ae ah))) (aa (pv 1) (aa (au bX (pv 2) (pv 3)) ah))))) pR1),?_⟩;have dG:vT K mg aL:=⟨bI.mg,⟨ur,cO,dv,cN,bW,cW.mg,eW⟩,fK,dw,du,dZ,cP,dq⟩;have pp:=Paired.imp (fun _ _ y=>PlF.e y) ppF;have hwh:w*h<=64:=Nat.mul_le_mul hw8 hh8;have hwp:0<w*h:=Nat.mul_pos hw hh;have e1:((w:Int)*(h:Int))=((w*h:Nat):Int):=by simp
 have lx:=Gi pp;have l8:=O.len;have hsn:∀x∈((List.range 6).map (c5 way)),PyData.canLay0 (.str x)=true:=fun x hx=>by obtain⟨j,hj,rfl⟩:=Ge.mp hx;exact(tR (GN.mp hj)).1.lay
 have ly:∀p∈ps,(plD p).canLay0=true:=fun p hp=>by obtain⟨v,_,hv⟩:=Paired.right pp hp;exact hv.lay (O.ok p hp).1 hsn
 have hGS:∀p∈ps,PlG rs p/\ShG p.S:=fun p hp=>⟨hG p hp,(O.ok p hp).1.gs.shG (by rw[FY,Ha];decide)⟩;refine⟨_,rfl,a,ms,6,rfl,hS,_,rfl,_,rfl,_,rfl,_,_,rfl,rfl,.inl ⟨by omega,by omega⟩,_,lp,xs,ps,w*h,congrArg (fun x=>[V.int (ms.getD 6 0),V.ref lp,V.int x]) e1,hl,pp,ly,fun p hp=>⟨(O.ok p hp).2.1,(O.ok p hp).2.2.1⟩,l8,⟨hwp,hwh⟩,fun c H2 hc s2=>?_⟩;have hl2:=s2.seq hl;have pp2:=Paired.imp (fun _ _ y=>PlF.tk s2.tk y) ppF;refine⟨_,rfl,_,rfl,lp,xs,_,c,rfl,.inl hl2,tG pp2,by omega,?_⟩;have hpv:cS xs (ps.map (·.g)) c=.non\/∃p,PlF K H2 (cS xs (ps.map (·.g)) c) p/\qB rs p.R/\GS ((List.range 6).map (c5 way)) p.S:=by
  rcases mv (c:=c) pp2 with⟨e,_⟩|⟨v,p,ev,_,_,hp,mp⟩
  ·exact .inl e
  ·exact .inr ⟨p,by rw[ev];exact hp,(hG p mp).nm,(O.ok p mp).1.gs⟩
 generalize cS xs (ps.map (·.g)) c=pv at hpv ⊢;refine⟨_,rfl,a,ms,4,rfl,s2.seq hS,?_⟩;generalize ms.getD 4 0=cell;refine⟨6,rfl,by decide,by decide,fun A hA=>?_⟩;refine mE (n:=6) (lo:=0) (fun i acc H5=>H5=upd H2 A (.lst acc)/\acc=SV ((List.range i).map (c5 way))) ⟨rfl,rfl⟩ ?_ ?_
 ·rintro i acc H5 hi ⟨rfl,rfl⟩;rw[show(0:Int)+(i:Int)=((i:Nat):Int) by omega];refine fo ?_;intro kq1 kr1;refine⟨_,rfl,_,rfl,i,way,rfl,hi,af,aN (by show(List.map _ _).length<=_;rw[FY,FY,Ha];omega),by rw[bq],?_⟩;rw[List.range_succ,Gk];show _=List.map _ (_++_);rw[Gk];rfl
 rintro acc H5 ⟨rfl,rfl⟩;have s25:=s2.trans (aw.upd (o:=.lst (SV ((List.range 6).map (c5 way)))) hA);have hA5:(upd H2 A (.lst (SV ((List.range 6).map (c5 way))))) A=some (.lst (SV ((List.range 6).map (c5 way)))):=af;have hpv5:pv=.non\/∃p,PlF K (upd H2 A (.lst (SV ((List.range 6).map (c5 way))))) pv p/\qB rs p.R/\GS ((List.range 6).map (c5 way)) p.S:=hpv.imp id fun⟨p,y1,y2⟩=>⟨p,y1.tk (aw.upd hA).tk,y2⟩;generalize (upd H2 A (.lst (SV ((List.range 6).map (c5 way)))))=H5 at s25 hA5 hpv5 ⊢;clear hpv
 have nat6:∀j:Nat,j<6->atI (SV ((List.range 6).map (c5 way))) ((j:Nat):Int)=some (.str (c5 way j)):=fun j hj=>av (by
  show(List.map V.str (List.map _ _))[j]?=_;rw[Gn,Gn,List.getElem?_range hj]
  rfl)
 have in6:∀j:Nat,j<6->c5 way j∈(List.range 6).map (c5 way):=fun j hj=>Ge.mpr ⟨j,GN.mpr hj,rfl⟩;refine⟨_,rfl,_,rfl,cell,108,6,rfl,by decide,by decide,fun k hk=>⟨A,_,_,_,rfl,rfl,SqL.of hA5,nat6 k hk,?_⟩⟩;refine⟨fun σ' H'=>∃g:Str,H'=H5/\σ'=[some (.ref a),some (.ref lp),some (.int w),some (.int h),some (.int way),some (.int c),some (pv),some (.int cell),some (.ref A),some (.str g),none,none,none,none,none,none,none,none,none,none,none,none]/\g∈(List.range 6).map (c5 way),?_,?_⟩
 ·refine eJ ?_;intro kD2;rcases hpv5 with rfl|⟨p,hp,hN,gs⟩
  ·exact⟨_,rfl,rfl,_,rfl,fq (fq ⟨_,rfl,rfl,in6 k hk⟩)⟩
  obtain⟨l,ls,lr,rfl,p1,p2,p3⟩:=hp;refine⟨_,rfl,rfl,_,rfl,jh ?_⟩;refine⟨_,rfl,cell,109,4,rfl,by decide,by decide,fun k2 hk2=>⟨_,_,rfl,rfl,_,rfl,?_⟩⟩;refine bj (fun h1=>?_) (fun h1=>⟨_,rfl,rfl,in6 k hk⟩);obtain⟨vs9,hv9,rv9⟩:=p2.t;have lv9:=Gi rv9;have pos:0<vs9.length:=by
   rw[lv9];rcases Nat.eq_zero_or_pos p.S.length with z|z
   ·have e0:p.S=[]:=List.eq_nil_of_length_eq_zero z;have t1:=gs.tot;rw[e0]at t1;exact absurd t1 (by decide)
   ·exact z
  refine⟨_,rfl,l,_,_,_,rfl,rfl,p1,av (j:=1) rfl,_,rfl,_,rfl,l,_,_,_,rfl,rfl,p1,av (j:=1) rfl,ls,vs9,rfl,.inr hv9,cell,110,vs9.length,rfl,pos,by decide,fun k3 hk3=>?_⟩;obtain⟨pr',hpr,r1,q1,er,h1',h2'⟩:=aX rv9 (Gh hk3);refine⟨ls,_,_,_,rfl,rfl,hv9,av (Gh hk3),?_⟩;rw[er];exact⟨r1,_,_,_,rfl,rfl,h1',av (j:=0) rfl,_,rfl,rfl,gs.nm _ (Gb hpr)⟩
 rintro σ' H6 ⟨g,rfl,rfl,hg⟩;obtain⟨j,jl,hj,fj⟩:=vw hg;have j6:j<6:=by rw[FY,Ha]at jl;exact jl
 have hj':((List.range 6).map (c5 way)).map PyData.str=((List.range 6).map (c5 way)).map PyData.str:=rfl;refine⟨_,rfl,_,rfl,.inl ⟨rfl,_,SqL.of hA5⟩,_,rfl,A,_,.str g,.str g,((List.range 6).map (c5 way)).map PyData.str,j,rfl,rfl,hA5,jV _,.str _,hsn g hg,qg hsn,Gq rfl,⟨.str g,by rw[Gn,hj];rfl,by rw[E7];exact Gp rfl⟩,fun m e hm he=>?_,?_⟩
 ·rw[Gn]at he;cases hy:((List.range 6).map (c5 way))[m]? with
  |none=>rw[hy]at he;cases he
  |some y=>rw[hy]at he;cases he;rw[E7];exact Gw (fj m y hm hy)
 refine⟨_,_,rfl,rfl,_,rfl,cell,111,5,rfl,by decide,by decide,fun k4 hk4=>?_⟩;have et:((j:Nat):Int)+1+((k4:Nat):Int)=((j+1+k4:Nat):Int):=by omega
 have em:(((j:Nat):Int)+1+((k4:Nat):Int)) % 6=(((j+1+k4) % 6:Nat):Int):=by omega
 refine⟨_,_,rfl,rfl,_,_,rfl,rfl,(by show(0:Int)<_;decide),A,_,_,_,rfl,rfl,SqL.of hA5,(by show atI _ ((((j:Nat):Int)+1+((k4:Nat):Int)) % 6)=_;rw[em];exact nat6 _ (Nat.mod_lt _ (by decide))),?_⟩;have htk:PyData.canLay0 (.str (c5 way ((j+1+k4) % 6)))=true:=hsn _ (in6 _ (Nat.mod_lt _ (by decide)));generalize c5 way ((j+1+k4) % 6)=tk at htk;refine⟨_,rfl,_,_,rfl,rfl,(by show(0:Int)<_;decide),_,_,rfl,rfl,aP rfl,fun l7 hl7=>?_⟩;have c9a:=GP cell (show(9:Int)≠0 by decide);have c9b:=GV cell (show(0:Int)<9 by decide);have s7:=aw.upd (o:=.tup [V.int 1,V.int (1+cell % 9)]) hl7;have h77:SqT K (upd H6 l7 (.tup [V.int 1,V.int (1+cell % 9)])) l7 [V.int 1,V.int (1+cell % 9)]:=SqT.of af;generalize (upd H6 l7 (.tup [V.int 1,V.int (1+cell % 9)]))=H7 at s7 h77 ⊢;refine⟨fun σ' H'=>∃(pa:Addr)(t b:Int),σ'=[some (.ref a),some (.ref lp),some (.int w),some (.int h),some (.int way),some (.int c),some (pv),some (.int cell),some (.ref A),some (.str g),some (.str tk),some (.ref pa),none,none,none,none,none,none,none,none,none,none]/\aw H6 H'/\SqT K H' pa [.int t,.int b]/\0<b/\0<t/\Bd 900 t/\Bd 900 b,?_,?_⟩
 ·refine eJ ?_;intro kD3;rcases hpv5 with rfl|⟨p,hp,hN,gs⟩
  ·exact⟨_,rfl,rfl,_,rfl,fq ⟨l7,1,1+cell % 9,rfl,s7,h77,by omega,by decide,Bd.of (by decide),(A0 (by omega) (by omega)).mono (by decide)⟩⟩
  obtain⟨l,ls,lr,rfl,p1,p2,p3⟩:=hp;have ag:=gs.shok.at g;have bg:=(gs.shG (by rw[FY,Ha];decide)).bd.at (by decide) g;refine⟨_,rfl,rfl,_,rfl,jh ?_⟩;refine⟨_,rfl,a,ms,5,rfl,(s25.trans s7).seq hS,_,rfl,l,_,_,_,rfl,rfl,s7.tup p1,av (j:=1) rfl,_,rfl,ls,p.S,g,rfl,p2.t.tk s7.tk,fun pz H8 s8 hz=>?_⟩;exact⟨_,pz,_,_,rfl,hz,ag.1.pos,ag.2,bg.1,bg.2,fun pa t b H9 s9 hpa b0 t0 bt bb=>⟨pa,t,b,rfl,s7.trans (s8.trans s9),hpa,b0,t0,bt,bb⟩⟩
 rintro σ' H9 ⟨pa,t,b,rfl,s9,hpa,b0,t0,bt,bb⟩;have s29:=s25.trans s9;have hpv9:pv=.non\/∃p,PlE K H9 pv p/\qB rs p.R:=hpv5.imp id fun⟨p,y1,y2,_⟩=>⟨p,y1.e.tk s9.tk,y2⟩;refine⟨_,rfl,a,ms,7,rfl,s29.seq hS,_,rfl,_,rfl,_,rfl,_,rfl,_,c,pv,w,h,rfl,by omega,hpv9.imp id (fun⟨p,y,_⟩=>⟨p,y⟩),⟨hw,hw8,hh,hh8⟩,fun gr=>?_⟩;refine⟨_,rfl,_,rfl,a,ms,way,rfl,s29.seq hS,fun lw sg num since0 ss H10 s10 hrow hsg lss=>?_⟩;refine⟨lw,_,rfl,hrow,rfl,_,_,rfl,_,_,rfl,_,_,rfl,rfl,?_⟩;have s210:=s29.trans s10;refine⟨_,rfl,a,ms,7,rfl,s210.seq hS,_,rfl,_,rfl,_,pv,since0,rs,rfl,hpv9.imp id (fun⟨p,y1,y2⟩=>⟨p,y1.tk s10.tk,y2⟩),fun since H11 s11=>?_⟩;have s211:=s210.trans s11;refine⟨fun σ' H'=>∃(sg:Addr)(ss:List Str),σ'=[some (.ref a),some (.ref lp),some (.int w),some (.int h),some (.int way),some (.int c),some (pv),some (.int cell),some (.ref A),some (.str g),some (.str tk),some (.ref pa),some (.int gr),some (.int num),some (.int since),some (.ref sg),none,none,none,none,none,none]/\aw H11 H'/\SqT K H' sg (SV ss)/\∀x∈ss,PyData.canLay0 (.str x)=true,?_,?_⟩
 ·refine eJ ?_;intro kD4;refine⟨_,rfl,cell,145,3,rfl,by decide,by decide,fun k5 hk5=>⟨rfl,_,rfl,?_⟩⟩;refine bj (fun h1=>?_) (fun h1=>⟨sg,ss,rfl,aw.refl _,s11.tup hsg,lss⟩);refine⟨_,rfl,aP rfl,fun l8 hl8=>⟨l8,[g],rfl,aw.upd hl8,SqT.of af,fun x hx=>?_⟩⟩;rw[F2.mp hx];exact hsn g hg
 clear hsg lss;rintro σ' H12 ⟨sg,ss,rfl,s12,hsg,lss⟩;have s212:=s211.trans s12;have hpa12:=(s10.trans (s11.trans s12)).tup hpa;refine⟨_,rfl,_,rfl,_,rfl,_,rfl,_,rfl,_,rfl,_,rfl,_,rfl,aP rfl,fun lr hlr=>?_⟩;have s13:=aw.upd (o:=.tup [V.str "give",V.int num,V.int since,V.ref sg,V.int c,V.str g,V.str tk,V.ref pa,V.int gr]) hlr;obtain⟨G,eG⟩:∃G:gZ,G=⟨c,g,tk,t,b,gr⟩:=⟨_,rfl⟩;have hr13:SqT K (upd H12 lr (.tup [V.str "give",V.int num,V.int since,V.ref sg,V.int c,V.str g,V.str tk,V.ref pa,V.int gr])) lr (Dn (.str "give") num since sg pa G):=by rw[eG];exact SqT.of af
 have hGok:nW G:=by rw[eG];exact⟨Nat.le_of_lt (F5 hc hwh),hsn g hg,b0,t0,bt,bb⟩
 have hpa13:SqT K (upd H12 lr (.tup [V.str "give",V.int num,V.int since,V.ref sg,V.int c,V.str g,V.str tk,V.ref pa,V.int gr])) pa [.int G.t,.int G.b]:=by rw[eG];exact s13.tup hpa12
 have hsg13:=s13.tup hsg;have s213:=s212.trans s13;generalize (upd H12 lr (.tup [V.str "give",V.int num,V.int since,V.ref sg,V.int c,V.str g,V.str tk,V.ref pa,V.int gr]))=H13 at s213 hr13 hpa13 hsg13 ⊢;refine⟨_,rfl,_,_,rfl,rfl,⟨by decide,by decide,by decide⟩,aP rfl,fun lt hlt=>?_⟩;have s14:=aw.upd (o:=.lst [V.non,V.int 0,V.int since,V.int ((10:Int)^(9:Int).toNat)]) hlt;refine⟨_,rfl,cell,147,4,rfl,by decide,by decide,fun k6 hk6=>?_⟩;obtain⟨tr,etr⟩:∃tr,atI [V.non,V.int 0,V.int since,V.int ((10:Int)^(9:Int).toNat)] ((k6:Nat):Int)=some tr:=by
  match k6,hk6 with
  | 0,_=>exact⟨_,rfl⟩
  | 1,_=>exact⟨_,rfl⟩
  | 2,_=>exact⟨_,rfl⟩
  | 3,_=>exact⟨_,rfl⟩
 refine⟨lt,_,_,_,rfl,rfl,SqL.of af,etr,?_⟩;have s12':=s213.trans s14;have hr12:=s14.tup hr13;have hpaN:=s14.tup hpa13;have hsg12:=s14.tup hsg13;clear etr;generalize (upd H13 lt (.lst [V.non,V.int 0,V.int since,V.int ((10:Int)^(9:Int).toNat)]))=HT at s12' hr12 hpaN hsg12 ⊢;refine⟨_,rfl,_,rfl,_,rfl,_,rfl,_,rfl,_,rfl,_,rfl,_,rfl,fun x dx hx hdx ne=>?_⟩;refine⟨x,aL,dx,sg,pa,num,since,G,.non,by rw[eG];rfl,af,dG,rfl,?_⟩;rw[bq];have sN:aw HT (upd (upd HT dx (.own x)) x (.ins aL dx (om num since sg pa G .non))):=(aw.upd hdx).trans (aw.upd (by rw[az (fun y=>ne y.symm)];exact hx));have hxN:(upd (upd HT dx (.own x)) x (.ins aL dx (om num since sg pa G .non))) x=some (.ins aL dx (om num since sg pa G .non)):=af;generalize (upd (upd HT dx (.own x)) x (.ins aL dx (om num since sg pa G .non)))=HN at sN hxN ⊢;refine⟨fun σ' H'=>∃(x dx:Addr)(tv:V),σ'=[some (.ref a),some (.ref lp),some (.int w),some (.int h),some (.int way),some (.int c),some (pv),some (.int cell),some (.ref A),some (.str g),some (.str tk),some (.ref pa),some (.int gr),some (.int num),some (.int since),some (.ref sg),some (.ref lr),some (tr),some (.ref x),none,none,none]/\aw HT H'/\H' x=some (.ins aL dx (om num since sg pa G tv)),?_,?_⟩
 ·refine eJ ?_;intro kD5;refine⟨_,rfl,rfl,_,rfl,?_⟩;refine bj (fun h1=>?_) (fun h1=>⟨x,dx,.non,rfl,sN,hxN⟩);refine⟨_,rfl,_,rfl,_,rfl,_,rfl,_,rfl,_,rfl,_,rfl,_,rfl,_,rfl,fun x2 dx2 hx2 hdx2 ne2=>?_⟩;refine⟨x2,aL,dx2,sg,pa,num,since,G,tr,by rw[eG];rfl,af,dG,rfl,?_⟩;rw[bq];exact⟨x2,dx2,tr,rfl,sN.trans ((aw.upd hdx2).trans (aw.upd (by rw[az (fun y=>ne2 y.symm)];exact hx2))),af⟩
 rintro σ' HX ⟨x,dx,tv,rfl,s13,hx13⟩;have sA:=s12'.trans s13;have hsgA:=s13.tup hsg12;have hpaA:=s13.tup hpaN;refine⟨_,rfl,_,rfl,lr,lp,sg,pa,.str "give",num,since,G,ss,xs,ps,rs,rfl,s13.tup hr12,hpaA,hsgA,lss,sA.seq hl,Paired.imp (fun _ _ y=>PlF.tk sA.tk y) ppF,hGS,hGok,fun o vd H8 s8 ro hd8=>?_⟩;have s18:=sA.trans s8;have hl8:=s18.seq hl;have pp8:=Paired.imp (fun _ _ y=>PlF.tk s18.tk y) ppF;have hsg8:=s8.tup hsgA;have hpa8:=s8.tup hpaA;have hx8:=s8 _ _ hx13;have plnp:∀p∈ps,Pln (plD p):=fun p hp=>(O.ok p hp).1.pln (by rw[FY,Ha];decide) O.bur;have plno:Pln (outD o):=ro.pln hG plnp fun p hp=>(hGS p hp).2.len;have dpo:(outD o).depth<11:=Nat.lt_succ_of_le (AQ o);refine⟨_,rfl,lp,xs,rfl,.inl hl8,fun lh hlh=>?_⟩;have s9:=aw.upd (o:=.lst xs) hlh;have hh9:(upd H8 lh (.lst xs)) lh=some (.lst xs):=af;generalize (upd H8 lh (.lst xs))=H9 at s9 hh9 ⊢;refine⟨_,rfl,_,rfl,_,rfl,aP rfl,fun tf htf=>?_⟩;have s10:=aw.upd (o:=.tup [V.int (w:Nat),V.int (h:Nat)]) htf;have s90:=s9.trans s10;refine⟨_,rfl,x,aL,dx,sg,pa,num,since,G,tv,lh,.ref tf,ss,xs,ps,rs,rfl,s90 _ _ hx8,dG,s90.tup hpa8,s90.tup hsg8,lss,SqL.of (s10 _ _ hh9),Paired.imp (fun _ _ y=>PlF.tk s90.tk y) pp8,hGS,hGok,fun o' v H11 s11 ro' hd'=>?_⟩;obtain rfl:=ro'.uniq ro;have s91:=s90.trans s11;have pp11:=Paired.imp (fun _ _ y=>(PlF.tk s91.tk y).e) pp8;have hh11:=s11 _ _ (s10 _ _ hh9);have hl11:=s91.seq hl8;have hd11:=IsD.same s91 hd8;have eqr:PyData.eqv (.list (ps.map plD)) (.list (ps.map plD))=true:=SeqAt.eqv_refl _ (lV ly);have dlp:PyData.depth (.list (ps.map plD))<=50:=GA (Nat.succ_le_succ (xu ps)) (by decide);refine⟨_,rfl,_,rfl,.list (ps.map plD),.list (ps.map plD),.lst (SqL.of hh11) (pL pp11),.lst hl11 (pL pp11),lV ly,lV ly,dlp,_,rfl,?_⟩;rw[eqr];refine fq ?_;refine⟨_,rfl,_,rfl,v,vd,outD o',rfl,hd',hd11,plno,dpo,_,rfl,fq ?_⟩;refine⟨_,rfl,_,rfl,_,rfl,aP rfl,fun tf2 htf2=>?_⟩;have s12:=aw.upd (o:=.tup [V.int (w:Nat),V.int (h:Nat)]) htf2;generalize (upd H11 tf2 (.tup [V.int (w:Nat),V.int (h:Nat)]))=H12 at s12 ⊢;refine⟨_,rfl,lp,xs,rfl,s12.seq hl11,fun rv hrv=>?_⟩;have nlp:∀o:HO,SqL K (upd H12 rv o) lp xs:=fun o=>(aw.upd hrv).seq (s12.seq hl11);refine⟨rv,lp,xs,rfl,af,nlp _,fun l2 hl2=>?_⟩;rw[bq];have nl:l2≠rv:=fun e=>by rw[e,af]at hl2;cases hl2
 replace hl2:(upd H12 rv (qD rv)) l2=none:=by rw[az nl]at hl2 ⊢;exact hl2
 have s13:=(aw.upd (o:=qD rv) hrv).trans (aw.upd (o:=.lst xs.reverse) hl2);have h13:(upd (upd H12 rv (qD rv)) l2 (.lst xs.reverse)) l2=some (.lst xs.reverse):=af;generalize (upd (upd H12 rv (qD rv)) l2 (.lst xs.reverse))=H13 at s13 h13 ⊢;have s93:=s91.trans (s12.trans s13);refine⟨x,aL,dx,sg,pa,num,since,G,tv,l2,.ref tf2,ss,xs.reverse,ps.reverse,rs,rfl,s93 _ _ hx8,dG,s93.tup hpa8,s93.tup hsg8,lss,SqL.of h13,Paired.rev (Paired.imp (fun _ _ y=>PlF.tk s93.tk y) pp8),fun p hp=>hGS p (List.mem_reverse.mp hp),hGok,fun o2 v2 H14 s14 ro2 hd2=>?_⟩;obtain rfl:=(ro2.rev O.ap).uniq ro;exact⟨_,rfl,v2,vd,outD o2,rfl,hd2,IsD.same (s93.trans s14) hd8,plno,dpo,q _ (s18.trans (s93.trans s14))⟩
def zp(K:Frag):Sp:=fun vs H Q _=>∃(a:Addr)(ns:List Int),vs=[.ref a]/\SqL K H a (ns.map V.int)/\ns.length<=63/\∀H',Q (.bl true) H'
theorem pG:aD ["_law_script","_law_wide","_law_high","_law_way","_law_plots"] ["_law_script"] (aq (top 77)):=by trivial
include B d6 aM gA fS in
theorem DB{f:Addr}{fd:FuncData}(F:Fun K "law" "law" (top 77) f fd):ji P w K mg base CX0 14 f fd ["_law_script"] (zp K):=by
 refine F.ok pG (by rintro _ _ _ _ ⟨a,ns,rfl,hS,hlen,q⟩;rfl) ?_;rintro _ A _ s H _ Q E hr ⟨a,ns,rfl,hS,hlen,q⟩;have hu:=hr.units;refine aQ ?_;intro kX;refine ai 4 (ao (aH (bJ (mS hu) uW (bZ ["_law_j"] [("_law_script",0),("_law_plots",4),("_law_wide",1),("_law_high",2),("_law_way",3)] (gg _ ["_law_wide","_law_way","_law_script","_law_plots","_law_high"]) rfl (by rfl) rfl (by trivial) (by trivial) (aW (by rfl)) (cR (by rfl)) (mC ⟨rfl,rfl⟩ (mC ⟨rfl,rfl⟩ (mC ⟨rfl,rfl⟩ (mC ⟨rfl,rfl⟩ (mC ⟨rfl,rfl⟩ mN))))) (mC rfl (mC rfl (mC rfl (mC rfl (mC rfl mN))))) (b6 (by decide)) (bU (by rfl) B.range (aa ae ah)) (fun _ _ _ _=>aR (i:=0) (show(["_law_j","_law_script","_law_plots","_law_wide","_law_high","_law_way"]:List Str).Nodup by trivial) rfl (Or.inl rfl) (Or.inr rfl)) (fun _ _ _ _=>cC) (fun _ _ _ _=>(aE gA hr (aa (aE fS hr (aa (pv 1) (aa (pv 0) ah))) (aa (pv 2) (aa (pv 3) (aa (pv 4) (aa (pv 5) ah)))))))) (by with_unfolding_all rfl)))) ?_;intro kR4 pR4;refine ai 3 (aj (aA (i:=4) pG.nd rfl (by trivial) (aE d6 hr (aa (pv 0) (aa (pv 1) (aa (pv 2) (aa (pv 3) ah)))))) pR4) ?_;intro kR3 pR3;refine ai 2 (aj (aA (i:=3) pG.nd rfl (by trivial) (au bf (au bV (aE aM hr (aa (pv 0) (aa ae ah))) ae) ae)) pR3) ?_;intro kR2 pR2;refine ai 1 (aj (aA (i:=2) pG.nd rfl (by trivial) (au aY ae (au bf (au bV (aE aM hr (aa (pv 0) (aa ae ah))) ae) ae))) pR2) ?_;intro kR1 pR1;refine⟨_,(aj (aA (i:=1) pG.nd rfl (by trivial) (au aY ae (au bf (aE aM hr (aa (pv 0) (aa ae ah))) ae))) pR1),?_⟩;obtain⟨w,ew,hw,hw8⟩:=CY (ns.getD 0 0);obtain⟨h,eh,hh,hh8⟩:=CY (ns.getD 0 0 / 8);refine⟨_,rfl,a,ns,0,rfl,hS,_,_,rfl,rfl,(by show(0:Int)<_;decide),_,_,rfl,rfl,?_⟩;simp only[ew];refine⟨_,rfl,a,ns,0,rfl,hS,_,_,rfl,rfl,⟨by decide,by decide⟩,_,_,rfl,rfl,(by show(0:Int)<_;decide),_,_,rfl,rfl,?_⟩;simp only[eh];refine⟨_,rfl,a,ns,0,rfl,hS,_,_,rfl,rfl,⟨by decide,by decide⟩,_,_,rfl,rfl,(by show(0:Int)<_;decide),?_⟩;refine⟨_,rfl,_,rfl,_,rfl,_,rfl,a,ns,w,h,_,rfl,hS,⟨hw,hw8,hh,hh8⟩,fun lp xs ps rs H1 s1 fr1 h1 pp O hG hnz=>?_⟩;refine⟨3,rfl,by decide,by decide,fun A hA=>?_⟩;refine mE (n:=3) (lo:=0) (fun i acc H2=>aw H1 H2/\H2 A=some (.lst acc)/\acc=List.replicate i (.bl true)) ⟨aw.upd hA,af,rfl⟩ ?_ ?_
 ·rintro i acc H2 hi ⟨s2,h2,rfl⟩;rw[show(0:Int)+(i:Int)=((i:Nat):Int) by omega];refine fo ?_;intro kq1 kr1;refine⟨_,rfl,_,rfl,a,ns,i,rfl,(s1.trans s2).seq hS,by omega,fun l ms H3 s3 hl=>?_⟩;have s23:=s2.trans s3;refine⟨_,rfl,_,rfl,_,rfl,_,rfl,l,lp,ms,w,h,_,xs,ps,rs,rfl,hl,⟨hw,hw8,hh,hh8⟩,SqL.of (s23 _ _ h1),Paired.imp (fun _ _ y=>PlF.tk s23.tk y) pp,O,hG,hnz,fun H4 s4=>?_⟩;have h4:=s4 _ _ (s3 _ _ h2);refine⟨h4,by rw[List.length_replicate];exact aN (by omega),?_,af,by rw[List.replicate_succ']⟩;intro b o e;rw[az (fun y=>by rw[y,hA]at e;cases e)];exact s4 _ _ (s23 _ _ e)
 rintro acc H2 ⟨s2,h2,rfl⟩;exact⟨.bool false,[.bool true,.bool true,.bool true],.bl _,.inl (.lst (SqL.of h2) (.cons (.bl _) (.cons (.bl _) (.cons (.bl _) .nil)))),rfl,rfl,Gq rfl,q _⟩
end
end My
structure PySem.W.Fast:Prop where (tw13385658770635376223 tw6241014182168252433 tw869567725169653999 tw15894053785821288771 tw14860055975332012426 tw10914603827241396540 tw2519967835267447964 tw17024056406890068037 tw3787568824474259023 tw16506147189525897218 tw13480753745340708615 tw4107451396543703768 tw15686606686263762477 tw13319007724208630725 tw13127301551006491949 tw15131531393035233717 tw14606098116972587982 tw4075903279744147714 tw7752861166619630768 tw3329764269016133401 tw12042344134718229250 tw17405802316271914263 tw8497678039713859193 tw1037118211164862176 tw7683439840006254899 tw3763229217514081495 tw2295916583727010369 tw13381349436961541645 tw14488685382811774697 tw10859433185724220829 tw1241939127890809624 tw10614102151901303042 tw9590829885358663670 tw14640919747811865559 tw1155435386864681768 tw12601427772315685966 tw13993792125420356357 tw17360882761176459405 tw14605061917423883442 tw1421993300048263531 tw12529364471184452335 tw8986028709688549917 tw17136684701951023762 tw17485478613928722669 tw15930636336734036713 tw18061159569648386995 tw14053512879130754571 tw8962408506890946088 tw565221409466387034 tw6314168614344551415 tw7929272840077525021 tw18386542182625636195 tw14248845577371545284 tw8328344637539587897 tw4449801013381976784 tw17319980108317797636 tw10818208331693120649 tw9546475352500426007 tw6983379393336321224 tw15344295661954480089 tw4139422092217466190 tw8910690189787733911 tw8219180811918914354 tw7835909411283168398 tw18397532292451344768 tw14454941219954351954 tw7389305534522485647 tw17240161255009641508 tw17980226663353789314 tw16255089682589872219 tw4790725357728658842 tw15028397167197337337 tw8050282704572532346 tw10480829095469319830 tw7780894037969618317 tw13676260597248177654 tw15785855615563718717 tw2323629815846124952 tw6302133909990339540 tw7467685666733130407 tw17237644945650840684 tw7081573844351994435 tw1977481452853440972 tw13712494559657507405 tw16230365124927945534 tw17203369333364156424 tw16331939045784017152 tw17116613559184784684 tw10034126319332557260 tw6552883958864308905 tw8548619328452954792 tw4291159853167261873 tw15227132463734137605 tw3150459460724352856 tw1306810627505465746 tw6468069320891732796 tw14791448632214171610 tw15127516979649368294 tw4197918248238491066 tw14297038422379230131 tw3671936473154933539 tw10826729588769138698 tw16395915582469145735 tw5406836809541442600 tw6121435179825688546 tw5663437054358844474 tw13166566137392755665 tw16665337182807283217 tw17773761562495330660 tw1559362358913921857 tw1492221735925131931 tw3144423756761733996 tw9018882875106639572 tw16964873011310786323 tw7081096831688799201 tw5422902806509641080 tw9931591188460990732 tw2747101881832309204 tw2504561311189680687 tw2820511795698925972 tw9661974810575032416 tw7993752939106348721 tw1233141147822888322 tw850013742392883388 tw5824553751791613742 tw3857126919860696276 tw15861627680487484620 tw1649886426052971824 tw10289335185050779080 tw5351466123323186512 tw12175282752439814248 tw7172317696896824886 tw18386021364346412793 tw10844930256216971311 tw13422270012185374717 tw4921756922095497457 tw8367262463818432927 tw15089032567589255593 tw11594025934737695823 tw10993199919416397889 tw17789587861054824657 tw1100972838737694719 tw11499688579279654846 tw14557866982814165398 tw8456477721768227838 tw5199399509588450647 tw8260875553672219740 tw14215364773825290391 tw4389566328752704242 tw3670145374209385140 tw5266295043634925812 tw6567297026511593981 tw11961386456142735761 tw13075200678114234579 tw13405499997436622222 tw4398401453211660647 tw5970560830026912290 tw6769382890230888400 tw2932555655328422446 tw12403637980802599108 tw6506190713131440600 tw14018776118080240598 tw3732873464795409758 tw4831660084594297405 tw9688310886043212866 tw18398362623754673976 tw3317881198926802010 tw11731317518583857069 tw5189861163856648981 tw1707452699790649074 tw7923325955355858774 tw18087802640246257778 tw16151496479983884896 tw12850275250056386418 tw6783087476044974481 tw2691411256403153437 tw10580242430996979229 tw1946205130951538384 tw1183474899274060085 tw3151348011782949542 tw638428532362179783 tw16897247547617028208 tw15120420988121997065 tw2968463198196687005 tw11041794629904752972 tw16109914835795952406 tw6355562496221029007 tw7621226284890197116 tw9536715286089640299 tw9317790934989020582 tw5399655515553974390 tw17332569441401529153 tw16688691426526964013 tw9830428488809339302 tw13411943745213769514 tw14333677760040965883 tw13533290365543900445 tw18103860447778965784 tw1903869581564655229 tw18133784272690339534 tw8632318539963553202 tw139206636790219958 tw11475301028793641498 tw17598905576364428527 tw6538277429944144322 tw1451914808633525553 tw14308988322430359075 tw5256186494386717594 tw7199801281988113256 tw1279114763799476085 tw15985702692212190786 tw346727152279042044 tw3860958904724311800 tw9263149295056547432 tw17027227652080892764 tw1681978803601825200 tw3726076353251236342 tw9465710590715717731 tw728963810027519644 tw10544306568677996060 tw17317827200241592711 tw14126695959201485109 tw9154014176589667138 tw16262428513404103599 tw1630238315852498161 tw11614892620898636485 tw2153916025974080822 tw11872078915024901386 tw17390354159648383931 tw7444778380555631999 tw2673140620018813283 tw4321385899739557593 tw7935709434440860862 tw10339175658246895727 tw7978479365055550203 tw250314740534633808 tw3861980763348007578 tw11612173231598751072 tw18441714420951101078 tw11645220783645272547 tw16654491654593572792 tw16333573981337470145 tw2513928446276110055 tw10236877771943160670 tw8524721478483016664 tw465109863816109593 tw10452787225422905518 tw17301080751185230796 tw5791509760748515646 tw11612192171982764118 tw8032859524227935740 tw17855832812412888005 tw16582025128974244657 tw17833720056607539144 tw6816185488155457245 tw12375816116378887263 tw11063409535896082173 tw15636127876437458179 tw5350651200411020893 tw10274703702075588342 tw15855183192110227980 tw5261878717201431639 tw14418274568529213526 tw6078455470445231675 tw10465505025190598459 tw12418951046739195760 tw324971528659521078 tw15200929868430717649 tw8568365895296264241 tw1975728175424769724 tw908376201499100321 tw9478093314722969615 tw17036412674259012885 tw4162614703291300354 tw2037254328342944303 tw12769978620985647700 tw1310191415318388568 tw8688403487770196537 tw8790167918165255337 tw11413262399516632838 tw5035653360785683691 tw268177552385575552 tw9833063409632058481 tw11777602645007669909 tw4998973870704848263 tw18248931255949560158 tw8264776383606901401 tw4593940375405227044 tw12290072872226564455 tw16003315128012057927 tw1340669465110602005 tw5799914009792236951 tw11558676784381262467 tw7419823689426795754 tw3430950882392330842 tw14598065896215374981 tw2684589688565431777 tw1648001021601825166 tw17981280441619739652 tw14478277330407433345 tw14998425753281151581 tw16825815259727701970 tw11925979752093576551 tw14433406401174317114 tw14355071091543433439 tw3562863847503313215 tw9922544751098036359 tw13157859464674582557 tw3976970022289461955 tw5461982153177708721 tw13795910803567422286 tw8908574592806177311 tw4515555565172054982 tw6392840198728903854 tw9116355601196105299 tw2726323708996796722 tw4115416973945136234 tw13245517335096109781 tw10323502607786567686 tw14352393884355275093 tw8100336895198273744 tw12867458865352820642 tw14811175955090738172 tw17814076266968975324 tw8240210802085309785 tw17607321838271976805 tw11485554675481081928 tw5384026971959486597 tw5882644013862683476 tw4928727569915017863 tw8949925723398331762 tw5581405062110994418 tw18057890407873002168 tw930360848410018106 tw4504347234647753444 tw8789981519358371335 tw6477948854610095449 tw5746781729069535438 tw13285691760315811611 tw15427412285430323651 tw7558892778708576902 tw6136927891445673209 tw4733921794779665854 tw10940771980254861520 tw4431788718790918674 tw16511852931170114115 tw11343779687799281517 tw15133740077767606087 tw16971749619381471665 tw3526580819187742584 tw10990778903169835860 tw6688697800177417422 tw13533046415657094999 tw12954257746667478011 tw2102366546318132261 tw15290212330421506289 tw11237816603349582171 tw14944923411281046194 tw2153093310650494440 tw1027815525205097558 tw16136246440654542900 tw9990972759316372227 tw4347494117387153854 tw8294455133619945702 tw6945947362745553175 tw9753753931294353193 tw17681554845137501665 tw7921673856184530453 tw1111309579437075904 tw8486206131739031465 tw15031707338550343996 tw8491316366586593931 tw1942589299845341731 tw11555120306586935278 tw12881070522679566718 tw2705510362409159584 tw10753642788076654417 tw10059143161898821522 tw6001920579028744091 tw12046866235690300264 tw12649390185891802564 tw11085530536028934301 tw15026151957435539895 tw7351246788124923201 tw10948640861094022934 tw88602638774517671 tw5474097265526302252 tw12712496110167946887 tw17404860792689588886 tw13213182942236720285 tw165352571587562414 tw14064283987153849407 tw9222433457478168289 tw13411048353290876956 tw1026987575585393535 tw12391923302574081024 tw9888245742737663804 tw11749180474020350370 tw13237118250540075208 tw17258906802310761631 tw17685984077817275519 tw1569229777465463510 tw12438820676935232636 tw4154674763290922900 tw7638382709957197050 tw8933218522555022125 tw1855730056514956074 tw3303215852316228951 tw9716169307982225477 tw9510818646903502953 tw10891918522021656072 tw5349355070775888074 tw2302899900874400586 tw15638852582627281804 tw10471270638495569304 tw16080115607082950519 tw5967987186612164720 tw4303622037570082181 tw837317908099734231 tw15868631717778585096 tw16664288645609204622 tw433921050001725898 tw1573725862041629393 tw15788525856593284927 tw1050358331741289961 tw10665170689990203579 tw10506957892276768540 tw11358048396534205303 tw16036656244478578540 tw17950376003071669194 tw5364049749167183696 tw14138362385763940515 tw14432014936545147464 tw12957508642019410796 tw15192796570519592480 tw2840618738833114543 tw18210224920825067561 tw252836842166991996 tw4120610232169764069 tw6369941040061432285 tw11536204584101863987 tw11511290382819700771 tw787152237098661625 tw423209284289004216 tw2997452164272113204 tw17330025586266169618 tw9202616124221546836 tw13471965997111012146 tw16660992226566667317 tw8544945055033644547 tw11437154103595906508 tw4558937223563306262 tw1403145109382122347 tw14112849083423585865 tw16483668506918519614 tw457844116918332425 tw12951651341200525267 tw6003914166682258128 tw15573253729834097069 tw5299835745650402905 tw3839384993105854177 tw5539005893152321303 tw4528250600680189233 tw400801959511560395 tw6805258918873177244 tw6328155531459277734 tw9425220290189493460 tw178162172009878923 tw14311450495489269888 tw8901657720941977770 tw3513121548246435746 tw17381223083922048487 tw10852966976846304104 tw4253123932614901280 tw1572754031148756113 tw14981867226557192969 tw12626306426107249834 tw6027690338264219230 tw4287320754656345038 tw17892257847384759004 tw3925063763180325283 tw10646291957178943178 tw998240230832395275 tw17626919811395291677 tw2880102010295719064 tw13084414327947182167 tw4557652194098433921 tw15446331223148877881 tw13978141961057364308 tw2621002448627467169 tw16593943237985530669 tw1735614987679493989 tw1055350132594100317 tw17866491288747491697 tw6182221182696975198 tw2230724316053117412 tw3166526515451369444 tw3393153210292551229 tw9748786451750964360 tw5993696523991377378 tw10780822725737375441 tw17764899382222517297 tw16133871268388339171 tw11308081506974912227 tw2544416909995671768 tw6074128003273897635 tw8436231961297699780 tw8062582547556986675 tw15127188232840185289 tw9354178328668891083 tw10110290197906679 tw15325526674148856288 tw877510747039561435 tw8749598396896204839 tw14983633895802118625 tw13398739984699424482 tw583869494078826276 tw4918527069655037107 tw4265196321460172179 tw9387605253711889193 tw558288491900657256 tw1593771790572519119 tw8925375518951674471 tw5854048206143981408 tw11617050652954553860 tw768150413765649216 tw17294470003765232247 tw18148524046313623684 tw18229322185564621160 tw12829510849084111221 tw14219796430252442364 tw1127150784898190562 tw17410202837011954607 tw8797768750989689129 tw10440013404239935427 tw14246751588812457821 tw7585789155247707197 tw9286516702367374461 tw3236498177642828002 tw10788898998046880958 tw7729293398683387415 tw17202883487848187652 tw13253580721303633484 tw2442014182193396090 tw2902907825884795414 tw6395381973040084830 tw407847792725283006 tw17033721834333143034 tw10881791242566953081 tw3865324345132271502 tw1963434856827344876 tw10811182163500629740 tw420646675501145964:True)
open PySem PySem.W PyProof.Rows
local macro_rules
 | `(tactic|trivial)=> `(tactic|(dsimp only[L2.KOf];refine' L2.Ej (by assumption) (by assumption) ?a ?l ?c ?k (fun _ _ _ _ _ _=>by first|exact L2.E2 fun _=>rfl|exact L2.wJ fun _ _=>rfl|exact L2.EZ fun _ _ _=>rfl|exact L2.DJ fun _ _ _ _=>rfl|exact L2.An fun _ _ _ _ _=>rfl|exact L2.EY fun _ _ _ _ _ _=>rfl|exact L2.FO fun _ _ _ _ _ _ _=>rfl);(case a=>k_is);(case l=>k_is);(case c=>k_is);(case k=>k_is)))
set_option maxRecDepth 100000 in
set_option maxHeartbeats 0 in
theorem PySem.Challenge.cw_landroll_k45_gives_holds : PySem.Challenge.rw_landroll_k45_gives.Holds := by
 w_on;o_law;k_head;(case hw=>w_witness2)
 k_fill
 refine L2.zh (l:=PySem.Challenge.rw_landroll_k45_gives) (n:=63) (k:=14) (x:="_law_script") (CX:=L2.CX0) (sp:=My.zp) rfl (by decide) rfl ⟨rfl,by decide,by decide⟩ (fun w h Y=>PySem.W.kIn_of Y) ?F ?S ?C
 case F=>
  intro w mg fa h KX G hmg;have B:L2.Bn mg:=by
   refine' L2.Fc KX G ?z0 ?z1 ?z2 ?z3 ?z4 ?z5 ?z6 ?z7 ?z8 ?z9 ?z10 ?z11 ?z12 ?z13
   (case z0=>k_is);(case z1=>k_is);(case z2=>k_is);(case z3=>k_is);(case z4=>k_is);(case z5=>k_is);(case z6=>k_is);(case z7=>k_is);(case z8=>k_is);(case z9=>k_is);(case z10=>k_is);(case z11=>k_is);(case z12=>k_is);(case z13=>k_is)
  have Ek:L2.Tx (L2.KOf KX) mg "law" (My.top 77) ["_law_script"]:=by trivial
  obtain⟨f,fd,F,b,hm⟩:=Ek.ex;have e0:=hmg.symm.trans hm;cases e0;obtain⟨oc,od,kV,doc,pm,an,cdv,ct,osl,rfl,lk,hcd⟩:=id F.ex;refine⟨fnOf "law" "law" (L2.cD (My.top 77)) (L2.bB (My.top 77)) (L2.aq (My.top 77)) .none kV doc pm an cdv ct,fun s u=>.of_eq rfl,fun base kb nb=>?_⟩;have mq:∃t,mg "FINEST"=some (.int 1000000000000000000000000000000000000000000000000000000000000 t):=by
   refine' L2.Ca KX G ?a
   (case a=>k_is)
  have vN:mg "abs"=none:=by
   refine' L2.oB KX G ?a
   (case a=>k_is)
  have xY:mg "any"=none:=by
   refine' L2.oB KX G ?a
   (case a=>k_is)
  have vM:mg "sum"=none:=by
   refine' L2.oB KX G ?a
   (case a=>k_is)
  have i9:mg "reversed"=none:=by
   refine' L2.oB KX G ?a
   (case a=>k_is)
  have fF:∃p,mg "NONE"=some (.ref p)/\∀H,L2.SqT (L2.KOf KX) H p [L2.V.int 0,L2.V.int 1]:=by
   dsimp only[L2.KOf];refine' L2.B5 KX G ?a ?l ?z ?r
   (case a=>k_is);(case l=>k_is);(case z=>decide);(case r=>exact .cons ⟨_,rfl⟩ (.cons ⟨_,rfl⟩ .nil))
  obtain⟨bW,cz,aL,bc,bA,ik,cW,cJ,bI,d5,cA,cB,bP,m_TooLittle_TooLittle,m_TooFine_TooFine,o_TooFine_TooLittle,mn,gq,hU,qj,ur,cO,dv,cN,fK,dw,du,dZ,cP,dq,eW,jJ,iO,jk,Bb⟩:∃bW cz aL bc bA ik,L2.eD mg "Paper" bW/\L2.jN (L2.KOf KX) mg "TooFine" cz/\L2.eD mg "Give" aL/\L2.CI (L2.KOf KX) mg "Paper" bW "__init__"/\L2.eD mg "Falls" bc/\L2.oq (L2.KOf KX) bc/\L2.jN (L2.KOf KX) mg "TooLittle" bA/\mroIn (L2.KOf KX) bA (.ref bA)=some true/\mroIn (L2.KOf KX) cz (.ref cz)=some true/\mroIn (L2.KOf KX) cz (.ref bA)=some false/\L2.A7 (L2.KOf KX) mg "Falls" bc/\L2.RdX (L2.KOf KX) bc "word"/\L2.RdX (L2.KOf KX) bc "who"/\L2.MkC (L2.KOf KX) mg "Give" aL/\L2.Cls (L2.KOf KX) aL/\L2.bu (L2.KOf KX) aL "number"/\L2.bu (L2.KOf KX) aL "since"/\L2.bu (L2.KOf KX) aL "signed"/\L2.bu (L2.KOf KX) aL "at"/\L2.bu (L2.KOf KX) aL "giver"/\L2.bu (L2.KOf KX) aL "taker"/\L2.bu (L2.KOf KX) aL "part"/\L2.bu (L2.KOf KX) aL "ground"/\L2.bu (L2.KOf KX) aL "trust"/\findIn (L2.KOf KX) (.ref aL) "wanting"=findIn (L2.KOf KX) (.ref bW) "wanting"/\L2.CH (L2.KOf KX) mg "LandError" ik/\L2.A8 (L2.KOf KX) bc "word"/\L2.A8 (L2.KOf KX) bc "who"/\L2.TxX (L2.KOf KX) mg "Falls" bc My.t9 ["self","text","word","who"] "Falls.__init__":=by
   dsimp only[L2.KOf];refine'⟨_,_,_,_,_,_,L2.fB KX G ?yY,L2.AI KX G ?vW ?vV,L2.fB KX G ?A9,L2.Ct KX G ?ml ?mj ?mi ?mh ?mf,L2.fB KX G ?yZ,L2.Ba ?x8 ?x6,L2.AI KX G ?sI ?sG,?m_TooLittle_TooLittle,?m_TooFine_TooFine,?o_TooFine_TooLittle,L2.B0 KX G ?yF ?yE ?yD ?yC,⟨?qW,?qV,?qU,?qT⟩,⟨?tu,?tq,?tp,?tj⟩,L2.DG KX G ?Ce ?Cd ?Cc,⟨?Cy,?Cw,?Cv,?Cu⟩,?cO,?dv,?cN,?fK,?dw,?du,?dZ,?cP,?dq,L2.two_eq ?nj ?ni,L2.Cs KX G ?t6 ?tZ ?tY ?tX,⟨?qK,?qJ,?qI⟩,⟨?sR,?sQ,?sP⟩,L2.C8 KX G ?ze ?zd ?zc ?zb ?za ?y9 ?y8 ?y6 (fun _ _ _ _ _ _ us hl=>match us,hl with| [_,_,_,_],_=>rfl)⟩
   (case yY=>k_is)
   (case vW=>k_is)
   (case vV=>k_exc)
   (case A9=>k_is)
   (case ml=>k_is)
   (case mj=>k_is)
   (case mi=>k_is)
   (case mh=>k_is)
   (case mf=>k_is)
   (case yZ=>k_is)
   (case x8=>k_is)
   (case x6=>kernel_rfl)
   (case sI=>k_is)
   (case sG=>k_exc)
   (case m_TooLittle_TooLittle=>k_is)
   (case m_TooFine_TooFine=>k_is)
   (case o_TooFine_TooLittle=>k_is)
   (case yF=>k_is)
   (case yE=>k_is)
   (case yD=>kernel_rfl)
   (case yC=>k_is)
   (case qW=>kernel_rfl)
   (case qV=>k_is)
   (case qU=>k_is)
   (case qT=>k_is)
   (case tu=>kernel_rfl)
   (case tq=>k_is)
   (case tp=>k_is)
   (case tj=>k_is)
   (case Ce=>k_is)
   (case Cd=>k_is)
   (case Cc=>k_is)
   (case Cy=>k_is)
   (case Cw=>k_is)
   (case Cv=>k_is)
   (case Cu=>k_is)
   (case cO=>show findIn _ _ _=_;k_is)
   (case dv=>show findIn _ _ _=_;k_is)
   (case cN=>show findIn _ _ _=_;k_is)
   (case fK=>show findIn _ _ _=_;k_is)
   (case dw=>show findIn _ _ _=_;k_is)
   (case du=>show findIn _ _ _=_;k_is)
   (case dZ=>show findIn _ _ _=_;k_is)
   (case cP=>show findIn _ _ _=_;k_is)
   (case dq=>show findIn _ _ _=_;k_is)
   (case nj=>k_is)
   (case ni=>k_is)
   (case t6=>k_is)
   (case tZ=>k_is)
   (case tY=>k_is)
   (case tX=>k_is)
   (case qK=>k_is)
   (case qJ=>kernel_rfl)
   (case qI=>k_is)
   (case sR=>k_is)
   (case sQ=>kernel_rfl)
   (case sP=>k_is)
   (case ze=>k_is)
   (case zd=>k_is)
   (case zc=>k_is)
   (case zb=>k_is)
   (case za=>k_is)
   (case y9=>k_is)
   (case y8=>k_is)
   (case y6=>kernel_rfl)
  have mJ:L2.TxM (L2.KOf KX) bW "__init__" "Paper.__init__" My.dY ["self","number","since","signed"] []:=by
   obtain⟨c_,n_,t_⟩:∃c_,L2.eD mg "Paper" c_/\L2.TxM (L2.KOf KX) c_ "__init__" "Paper.__init__" My.dY ["self","number","since","signed"] []:=by
    dsimp only[L2.KOf];refine'⟨_,L2.fB KX G ?n,L2.mI ?a ?f ?l ?c ?k (fun _ _ _ _ _ _=>L2.DJ fun _ _ _ _=>rfl)⟩
    (case n=>k_is);(case a=>k_is);(case f=>k_is);(case l=>k_is);(case c=>k_is);(case k=>k_is)
   obtain rfl:c_=bW:=L2.eD.uniq n_ cW;exact t_
  have nX:L2.TxM (L2.KOf KX) bW "wanting" "Paper.wanting" My.eR ["self","names"] []:=by
   obtain⟨c_,n_,t_⟩:∃c_,L2.eD mg "Paper" c_/\L2.TxM (L2.KOf KX) c_ "wanting" "Paper.wanting" My.eR ["self","names"] []:=by
    dsimp only[L2.KOf];refine'⟨_,L2.fB KX G ?n,L2.mI ?a ?f ?l ?c ?k (fun _ _ _ _ _ _=>L2.wJ fun _ _=>rfl)⟩
    (case n=>k_is);(case a=>k_is);(case f=>k_is);(case l=>k_is);(case c=>k_is);(case k=>k_is)
   obtain rfl:c_=bW:=L2.eD.uniq n_ cW;exact t_
  have ka:L2.TxM (L2.KOf KX) aL "has_to_agree" "Give.has_to_agree" My.cG ["self","burden"] []:=by
   obtain⟨c_,n_,t_⟩:∃c_,L2.eD mg "Give" c_/\L2.TxM (L2.KOf KX) c_ "has_to_agree" "Give.has_to_agree" My.cG ["self","burden"] []:=by
    dsimp only[L2.KOf];refine'⟨_,L2.fB KX G ?n,L2.mI ?a ?f ?l ?c ?k (fun _ _ _ _ _ _=>L2.wJ fun _ _=>rfl)⟩
    (case n=>k_is);(case a=>k_is);(case f=>k_is);(case l=>k_is);(case c=>k_is);(case k=>k_is)
   obtain rfl:c_=aL:=L2.eD.uniq n_ bI;exact t_
  have nZ:L2.TxM (L2.KOf KX) aL "__init__" "Give.__init__" My.eV ["self","number","since","signed","at","giver","taker","part","ground","trust"] [.none]:=by
   obtain⟨c_,n_,t_⟩:∃c_,L2.eD mg "Give" c_/\L2.TxM (L2.KOf KX) c_ "__init__" "Give.__init__" My.eV ["self","number","since","signed","at","giver","taker","part","ground","trust"] [.none]:=by
    dsimp only[L2.KOf];refine'⟨_,L2.fB KX G ?n,L2.xj ?a ?f ?l ?c ?k ?b1 ?b2⟩
    (case n=>k_is);(case a=>k_is);(case f=>k_is);(case l=>k_is);(case c=>k_is);(case k=>k_is)
    (case b1=>exact L2.fY fun _=>L2.fY fun _=>L2.fY fun _=>L2.fY fun _=>L2.fY fun _=>L2.fY fun _=>L2.fY fun _=>L2.fY fun _=>L2.fY fun _=>L2.fY fun _=>L2.lenZ fun _=>rfl);(case b2=>exact L2.EX (L2.fY fun _=>L2.fY fun _=>L2.fY fun _=>L2.fY fun _=>L2.fY fun _=>L2.fY fun _=>L2.fY fun _=>L2.fY fun _=>L2.fY fun _=>L2.lenZ fun _=>rfl))
   obtain rfl:c_=aL:=L2.eD.uniq n_ bI;exact t_
  have nY:L2.TxM (L2.KOf KX) aL "agreeing" "Give.agreeing" My.eU ["self","plot"] []:=by
   obtain⟨c_,n_,t_⟩:∃c_,L2.eD mg "Give" c_/\L2.TxM (L2.KOf KX) c_ "agreeing" "Give.agreeing" My.eU ["self","plot"] []:=by
    dsimp only[L2.KOf];refine'⟨_,L2.fB KX G ?n,L2.mI ?a ?f ?l ?c ?k (fun _ _ _ _ _ _=>L2.wJ fun _ _=>rfl)⟩
    (case n=>k_is);(case a=>k_is);(case f=>k_is);(case l=>k_is);(case c=>k_is);(case k=>k_is)
   obtain rfl:c_=aL:=L2.eD.uniq n_ bI;exact t_
  have qN:L2.TxM (L2.KOf KX) aL "handed" "Give.handed" My.fM ["self","plot"] []:=by
   obtain⟨c_,n_,t_⟩:∃c_,L2.eD mg "Give" c_/\L2.TxM (L2.KOf KX) c_ "handed" "Give.handed" My.fM ["self","plot"] []:=by
    dsimp only[L2.KOf];refine'⟨_,L2.fB KX G ?n,L2.mI ?a ?f ?l ?c ?k (fun _ _ _ _ _ _=>L2.wJ fun _ _=>rfl)⟩
    (case n=>k_is);(case a=>k_is);(case f=>k_is);(case l=>k_is);(case c=>k_is);(case k=>k_is)
   obtain rfl:c_=aL:=L2.eD.uniq n_ bI;exact t_
  have kG:L2.TxM (L2.KOf KX) aL "done_untold" "Give.done_untold" My.cY ["self","plot"] []:=by
   obtain⟨c_,n_,t_⟩:∃c_,L2.eD mg "Give" c_/\L2.TxM (L2.KOf KX) c_ "done_untold" "Give.done_untold" My.cY ["self","plot"] []:=by
    dsimp only[L2.KOf];refine'⟨_,L2.fB KX G ?n,L2.mI ?a ?f ?l ?c ?k (fun _ _ _ _ _ _=>L2.wJ fun _ _=>rfl)⟩
    (case n=>k_is);(case a=>k_is);(case f=>k_is);(case l=>k_is);(case c=>k_is);(case k=>k_is)
   obtain rfl:c_=aL:=L2.eD.uniq n_ bI;exact t_
  have uC:L2.TxM (L2.KOf KX) aL "done" "Give.done" My.hJ ["self","floor","plots","told"] [.none]:=by
   obtain⟨c_,n_,t_⟩:∃c_,L2.eD mg "Give" c_/\L2.TxM (L2.KOf KX) c_ "done" "Give.done" My.hJ ["self","floor","plots","told"] [.none]:=by
    dsimp only[L2.KOf];refine'⟨_,L2.fB KX G ?n,L2.xj ?a ?f ?l ?c ?k ?b1 ?b2⟩
    (case n=>k_is);(case a=>k_is);(case f=>k_is);(case l=>k_is);(case c=>k_is);(case k=>k_is)
    (case b1=>exact L2.fY fun _=>L2.fY fun _=>L2.fY fun _=>L2.fY fun _=>L2.lenZ fun _=>rfl);(case b2=>exact L2.EX (L2.fY fun _=>L2.fY fun _=>L2.fY fun _=>L2.lenZ fun _=>rfl))
   obtain rfl:c_=aL:=L2.eD.uniq n_ bI;exact t_
  have dO:=My.yp (P:=My.Pg) (w:=w) (base:=base) Bb jJ iO jk;have xV:=My.DC (P:=My.Pg) (w:=w) (base:=base) (K:=L2.KOf KX) B (by trivial);have gC:=My.rh (P:=My.Pg) (w:=w) (base:=base) (K:=L2.KOf KX) B (by trivial);have d9:=My.lZ (P:=My.Pg) (w:=w) (base:=base) B cW mJ;have eZ:=My.mY (P:=My.Pg) (w:=w) (base:=base) B cW nX;have d8:=My.lY (P:=My.Pg) (w:=w) (base:=base) (K:=L2.KOf KX) B vN (by trivial);have oK:=My.Ad (P:=My.Pg) (w:=w) (base:=base) (K:=L2.KOf KX) B (by trivial);have iJ:=My.wu (P:=My.Pg) (w:=w) (base:=base) (K:=L2.KOf KX) B mq xY cJ fF (by trivial);have i6:=My.uY (P:=My.Pg) (w:=w) (base:=base) (K:=L2.KOf KX) B fF (by trivial);have cI:=My.jH (P:=My.Pg) (w:=w) (base:=base) B bI ka;have aM:=My.pZ (P:=My.Pg) (w:=w) (base:=base) (K:=L2.KOf KX) B (by trivial);have cV:=My.tL (P:=My.Pg) (w:=w) (base:=base) (K:=L2.KOf KX) B (by trivial);have c8:=My.u9 (P:=My.Pg) (w:=w) (base:=base) (K:=L2.KOf KX) B (by trivial);have ic:=My.tN (P:=My.Pg) (w:=w) (base:=base) (K:=L2.KOf KX) B (by trivial);have bo:=My.wz (P:=My.Pg) (w:=w) (base:=base) (K:=L2.KOf KX) B (by trivial);have gy:=My.qZ (P:=My.Pg) (w:=w) (base:=base) (K:=L2.KOf KX) B (by trivial);have aB:=My.uZ (P:=My.Pg) (w:=w) (base:=base) (K:=L2.KOf KX) B (by trivial);have bM:=My.u3 (P:=My.Pg) (w:=w) (base:=base) (K:=L2.KOf KX) B (by trivial);have cy:=My.wy (P:=My.Pg) (w:=w) (base:=base) (K:=L2.KOf KX) B (by trivial);have bC:=My.kO (P:=My.Pg) (w:=w) (base:=base) (K:=L2.KOf KX) B (by trivial);have dH:=My.kL (P:=My.Pg) (w:=w) (base:=base) (K:=L2.KOf KX) B (by trivial);have bD:=My.kS (P:=My.Pg) (w:=w) (base:=base) (K:=L2.KOf KX) B (by trivial);have fR:=My.pW (P:=My.Pg) (w:=w) (base:=base) (K:=L2.KOf KX) B (by trivial);have cu:=My.n6 (P:=My.Pg) (w:=w) (base:=base) (K:=L2.KOf KX) B (by trivial);have i7:=My.u4 (P:=My.Pg) (w:=w) (base:=base) (K:=L2.KOf KX) B (by trivial);have gB:=My.rg B gC (by trivial);have jZ:=My.wx B xV (by trivial);have bE:=My.kT B d8 (by trivial);have di:=My.m3 B cW bI d5 d9 nZ;have dM:=My.kP B c8 ic (by trivial);have ie:=My.tO B bo gy (by trivial);have dJ:=My.kN B vM aB bM cy (by trivial);have fg:=My.u7 B aB (by trivial);have cE:=My.kQ B aB (by trivial);have cF:=My.pY B bo (by trivial);have mD:=My.yo B bo aB (by trivial);have dI:=My.kM B bo aB bM (by trivial);have dF:=My.kK B aB (by trivial);have eY:=My.mX B aB cy (by trivial);have gz:=My.q5 B cy (by trivial);have fS:=My.pX B aM (by trivial);have ia:=My.tM B aB bD (by trivial);have iW:=My.vb B dO cA cB jZ (by trivial);have gu:=My.rj B cW dO cA cB eZ (by trivial);have uh:=My.BO B bE (by trivial);have oM:=My.Ae B bE (by trivial);have e8:=My.mZ B bI cI gB nY;have fz:=My.qY B bo ie (by trivial);have dN:=My.kR B aB bM bC fg (by trivial);have eX:=My.mW B c8 bo aB dH dJ cE (by trivial);have i8:=My.u5 B aM bC fg dI (by trivial);have fA:=My.n9 B bD fR cu i7 cF gz (by trivial);have fP:=My.pU B fF uh (by trivial);have fQ:=My.pV B fF oM (by trivial);have gw:=My.rl B dO cA cB iW (by trivial);have d6:=My.lX B aM aB dM fz dN eX (by trivial);have iK:=My.wA B bP oK iJ i6 fP fQ (by trivial);have fT:=My.p6 B cJ bI dO cA cB bP m_TooLittle_TooLittle m_TooFine_TooFine o_TooFine_TooLittle iK qN;have c9:=My.ke B bI gu e8 fT kG;have ig:=My.tQ B bI gw c9 uC;have gW:=My.u6 B bI cA mn gq hU ig (by trivial);have f9:=My.tP B cV (by trivial);have gA:=My.rf B cW bI i9 qj ur cO dv cN fK dw du dZ cP dq eW aM aB bM cu di cF mD dF eY ia i8 fA gW f9 (by trivial);exact My.DB B aM fS d6 gA F
 case S=>exact fun K H a ns hl hO hS=>⟨a,ns,rfl,hS,hl,fun _=>rfl⟩
 case C=>exact fun _ _ _ _ h=>h
#print axioms PySem.Challenge.cw_landroll_k45_gives_holds
