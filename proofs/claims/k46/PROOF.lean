import PyProof.Rows.All
import Wide.All
import OpenK.AllK
import Wide.FinOn
import Lean
import PyProof.EqAt
import PyProof.EqKinds
import PyProof.TupleCall
import PySem.Challenge.RW_landroll_k46_lays_and_notes
set_option Elab.async false
set_option linter.all false
set_option maxRecDepth 100000
open PySem.W (Frag findIn keepIn mroIn kitOne fnOf codeIn nsIn)
section
open PySem PySem.Spec PyProof.Rows PyProof PySem.W PySem.Calls PySem.Builtin PySem.F
def Gg:=@wpAny_bind
def Gh:=@List.length_map
def Gi:=@Heap.get?_push_of_some
def Gj:=@wpAny_pure
def Gk:=@List.mem_singleton
def Gm:=@List.mem_map
def Gn:=@List.length_append
def Gp:=@List.mem_of_getElem?
def Gq:=@List.size_toArray
def Gr:=@Nat.le_refl
def Gs:=@List.mem_cons_of_mem
def Gu:=@if_neg
def Gv:=@List.mem_append
def Gw:=@Paired.length
def Gx:=@Nat.lt_of_lt_of_le
def Gy:=@List.mem_cons_self
def Gz:=@if_pos
def GA:=@List.getElem?_eq_some_iff
def GB:=@List.getElem?_eq_getElem
def GC:=@List.map_cons
def GF:=@List.take_add_one
def GG:=@Heap.lt_size
def GH:=@List.mem_cons
def GI:=@List.mem_append_left
def GJ:=@Bool.false_ne_true
def GK:=@List.map_append
def GL:=@List.take_length
def GN:=@decide_eq_true
def GO:=@Heap.get?_push_size
def GP:=@Nat.le_of_ble_eq_true
def GQ:=@List.mem_append_right
def GR:=@List.length_take
def GU:=@of_decide_eq_true
def GV:=@List.length_cons
def GW:=@PassesOwn.never
def GX:=@List.getElem?_map
def GY:=@List.append_nil
def GZ:=@decide_eq_false
def G0:=@Nat.le_trans
def G1:=@Nat.zero_le
def G2:=@Option.some.inj
def G3:=@Option.toList_some
def G4:=@PySem.F.plainAttrs_list
def G5:=@Nat.ne_of_lt
def G6:=@Nat.succ.inj
def G7:=@List.mem_range
def G8:=@Decidable.byContradiction
def G9:=@List.find?_cons
def Ha:=@wpAny_mono
def Hb:=@Nat.pow_le_pow_right
def Hd:=@PySem.F.type_list_append
def He:=@PySem.F.slot_list_append
def Hf:=@Heap.get?_update_other
def Hg:=@Int.toNat_natCast
def Hh:=@Array.length_toList
def Hi:=@wpS_bind
def Hj:=@decide_eq_true_eq
def Hk:=@PySem.W.mg_none_of
def Hl:=@sizeLine_eq
def Hm:=@Bool.and_eq_true_iff
def Hn:=@wpAny_newObj_type
def Ho:=@Heap.get?_update_self
def Hq:=@Bool.false_eq_true
def Hr:=@wpAny_holding
def Hs:=@Int.emod_nonneg
def Ht:=@Heap.SameBut.update
def Hu:=@Nat.testBit_and
def Hv:=@List.nodup_cons
def Hw:=@PySem.boot_len
def Hx:=@List.length_range
def Hy:=@List.filter_append
def Hz:=@Int.emod_lt_of_pos
def HB:=@Ne.symm
def HC:=@List.length_singleton
def HD:=@wpAny_call_entry
def HE:=@PyProof.Rows.slot_tuple_getitem
def HF:=@List.getElem?_cons_succ
def HG:=@List.append_assoc
def HH:=@List.exists_cons_of_length_eq_add_one
def HI:=@List.Nodup.length_le_of_subset
def HJ:=@PySem.W.kia_one
def HK:=@List.mem_filter
def HL:=@wpS_pure
def HM:=@List.mem_map_of_mem
def HP:=@wpAny_loadPart_at
def HQ:=@Nat.le_of_lt
def HR:=@List.map_map
def HS:=@List.length_filter_le
def HU:=@Array.getElem?_toList
def HV:=@wpAny_callSpecial?_slot
def HW:=@Nat.lt_irrefl
def HY:=@Bool.and_eq_true
def HZ:=@List.pairwise_map
def Ia:=@List.getElem?_append_left
def Ib:=@Nat.zero_add
def Ic:=@List.range_succ
def Ie:=@List.find?_eq_none
def Ig:=@List.getElem_mem
def Ih:=@List.any_eq_true
def Ii:=@List.mem_of_mem_take
end
namespace L2
theorem ep3{α β:Type}{A B C:α->β->Prop}{g:Prop}(h:∃x y,A x y/\B x y/\C x y)(k:∀x y,A x y->B x y->C x y->g):g:=by obtain⟨x,y,a,b,c⟩:=h;exact k x y a b c
end L2
namespace L2
open PySem PySem.Spec PyProof.Rows
noncomputable abbrev Key:=Sum Int Str
noncomputable def qq:Key->Value->Bool
 | .inl k,v=>Value.isInt k v
 | .inr x,v=>Value.isStrOf x v
noncomputable def F4(w:World):Key->Int
 | .inl k=>hashInt k
 | .inr x=>hashStr w x
theorem bZ:∀{k:Key}{v:Value},qq k v=true->(∃i t,k=Sum.inl i/\v=Value.int i t)\/(∃x t,k=Sum.inr x/\v=Value.str x t)
 | .inl i,v,h=>by obtain⟨t,e⟩:=Value.isInt_shape (k:=i) (v:=v) h;exact .inl ⟨i,t,rfl,e⟩
 | .inr x,v,h=>by obtain⟨t,e⟩:=Value.isStrOf_shape (x:=x) (v:=v) h;exact .inr ⟨x,t,rfl,e⟩
theorem yD(i:Int)(t:Tok):qq (.inl i) (.int i t)=true:=by simp[qq,Value.isInt]
theorem yC(x:Str)(t:Tok):qq (.inr x) (.str x t)=true:=by simp[qq,Value.isStrOf]
theorem DZ(a b:Int):decide ((Sum.inl a:Key)=Sum.inl b)=(a==b):=by
 by_cases e:a=b
 ·subst e;simp
 ·have h:¬(Sum.inl a:Key)=Sum.inl b:=fun q=>e (Sum.inl.inj q);rw[GZ h];exact(beq_eq_false_iff_ne.mpr e).symm
theorem DW(a b:Str):decide ((Sum.inr a:Key)=Sum.inr b)=decide (a=b):=by
 by_cases e:a=b
 ·subst e;simp
 ·have h:¬(Sum.inr a:Key)=Sum.inr b:=fun q=>e (Sum.inr.inj q);rw[GZ h,GZ e]
theorem DY(a:Int)(b:Str):decide ((Sum.inl a:Key)=Sum.inr b)=false:=GZ (fun q=>nomatch q)
theorem DX(a:Str)(b:Int):decide ((Sum.inr a:Key)=Sum.inl b)=false:=GZ (fun q=>nomatch q)
noncomputable def bx(prog:Program)(w:World):PySem.KeyKind prog w Key where
 is:=qq
 hash:=F4 w
 inj:=fun v a b ha hb=>by
  rcases bZ ha with⟨i,t,rfl,rfl⟩|⟨x,t,rfl,rfl⟩
  ·rcases bZ hb with⟨j,u,rfl,e⟩|⟨y,u,rfl,e⟩
   ·injection e with e1 _;rw[e1]
   ·exact nomatch e
  ·rcases bZ hb with⟨j,u,rfl,e⟩|⟨y,u,rfl,e⟩
   ·exact nomatch e
   ·injection e with e1 _;rw[e1]
 byValue:=fun k v h=>by
  rcases bZ h with⟨i,t,rfl,rfl⟩|⟨x,t,rfl,rfl⟩<;>rfl
 pyHash:=fun hv h=>by
  rcases bZ hv with⟨i,t,rfl,rfl⟩|⟨x,t,rfl,rfl⟩
  ·exact wpAny_pyHash_int h
  ·exact wpAny_pyHash_str h
 eqBool:=fun hu hv h=>by
  rcases bZ hu with⟨i,t,rfl,rfl⟩|⟨x,t,rfl,rfl⟩
  ·rcases bZ hv with⟨j,u,rfl,rfl⟩|⟨y,u,rfl,rfl⟩
   ·rw[DZ]at h;exact wpAny_eqBool_int h
   ·rw[DY]at h;exact SeqAt.EqAt.int_str i t y u _ _ _ _ h
  ·rcases bZ hv with⟨j,u,rfl,rfl⟩|⟨y,u,rfl,rfl⟩
   ·rw[DX]at h;exact SeqAt.EqAt.str_int x t j u _ _ _ _ h
   ·rw[DW]at h;exact wpAny_eqBool_str h
 «strs»:=fun k x t v h=>by
  rcases bZ h with⟨i,u,rfl,e⟩|⟨y,u,rfl,e⟩
  ·exact nomatch e
  ·injection e with e1 _
   subst e1
   cases v<;>rfl
theorem uY(prog:Program)(w:World)(i:Int)(t:Tok):(bx prog w).is (.inl i) (.int i t)=true:=yD i t
theorem uX(prog:Program)(w:World)(x:Str)(t:Tok):(bx prog w).is (.inr x) (.str x t)=true:=yC x t
inductive V where
 |non|bl (b:Bool)|int (i:Int)|str (x:Str)|byt (b:Array UInt8)|flt (b:UInt64)|ref (a:Addr)|ty (n:String)
 deriving DecidableEq
noncomputable def RelV:V->Value->Prop
 | .non,u=>u=Value.none
 | .bl b,u=>u=Value.bool b
 | .int i,u=>∃t,u=Value.int i t
 | .str x,u=>∃t,u=Value.str x t
 | .byt b,u=>∃t,u=Value.bytes b t
 | .flt b,u=>∃t,u=Value.float b t
 | .ref a,u=>u=Value.ref a
 | .ty n,u=>u=Value.type n
abbrev Vals:List V->List Value->Prop:=Paired RelV
theorem Vals.length{xs:List V}{us:List Value}(r:Vals xs us):xs.length=us.length:=Gw r
theorem Vals.get:∀{xs:List V}{us:List Value}{i:Nat}{x:V},Vals xs us->xs[i]?=some x->∃u,us[i]?=some u/\RelV x u
 |_,_,_,_,.nil,e=>by simp at e
 |_,_,0,_,.cons r _,e=>by simp at e;subst e;exact⟨_,rfl,r⟩
 |_,_,i+1,x,.cons _ t,e=>by obtain⟨u,h1,h2⟩:=Vals.get (i:=i) (x:=x) t (by simpa using e);exact⟨u,by simpa using h1,h2⟩
theorem Vals.set{x:V}{u:Value}(r:RelV x u):∀{xs:List V}{us:List Value}(i:Nat),Vals xs us->Vals (xs.set i x) (us.set i u)
 |_,_,_,.nil=>.nil
 |_,_,0,.cons _ t=>.cons r t
 |_,_,i+1,.cons q t=>.cons q (Vals.set r i t)
theorem Vals.append{xs ys:List V}{us ws:List Value}(hI:Vals xs us):Vals ys ws->Vals (xs++ys) (us++ws):=by
 induction hI with
 |nil=>exact fun s=>s
 |cons r t ih=>exact fun s=>.cons r (ih s)
theorem Vals.take:∀{xs:List V}{us:List Value}(n:Nat),Vals xs us->Vals (xs.take n) (us.take n)
 |_,_,0,_=>.nil
 |_,_,_+1,.nil=>.nil
 |_,_,n+1,.cons r t=>.cons r (Vals.take n t)
theorem Vals.drop:∀{xs:List V}{us:List Value}(n:Nat),Vals xs us->Vals (xs.drop n) (us.drop n)
 |_,_,0,r=>r
 |_,_,_+1,.nil=>.nil
 |_,_,n+1,.cons _ t=>Vals.drop n t
noncomputable def iq:Option V->Option Value->Prop
 |some v,some u=>RelV v u
 |none,none=>True
 |_,_=>False
def KV{κ:Type}:List (κ×V)->List (κ×Value)->Prop:=Paired fun(p:κ×V) (q:κ×Value)=>p.1=q.1/\RelV p.2 q.2
noncomputable def kV:Key->V
 | .inl i=>.int i
 | .inr x=>.str x
inductive HO where
 |lst (xs:List V)
 |tup (xs:List V)
 |dK (kvs:List (Key×V))|dT (kvs:List (List Key×V))
 |set (S:Int->Bool) (n:Nat)
 |ins (C dx:Addr) (fs:List (Str×V))
 |own (x:Addr)
 |xd (fs:List (Str×V))
 |met (f x:Addr)
 |rng (lo hi:Int)
 |frz (o:Obj) (u:HO)
 |tbl (ps:Array Value)
 |ext (φ:Heap->Prop)
noncomputable abbrev Hp:=Addr->Option HO
noncomputable def upd(H:Hp)(a:Addr)(o:HO):Hp:=fun b=>if b=a then some o else H b
theorem af{H:Hp}{a:Addr}{o:HO}:upd H a o a=some o:=by unfold upd;rw[Gz rfl]
theorem av{H:Hp}{a b:Addr}{o:HO}(h:b≠a):upd H a o b=H b:=by unfold upd;rw[Gu h]
theorem aZ{H:Hp}{a:Addr}{o u:HO}:upd (upd H a o) a u=upd H a u:=by funext b;unfold upd;split<;>rfl
theorem jj{H:Hp}{a b:Addr}{o u:HO}(h:H a=some o)(h':H b=some u)(d:o≠u):a≠b:=by intro e;subst e;rw[h]at h';exact d (G2 h')
theorem c9{H:Hp}{a b:Addr}{o:HO}(h:H a=some o)(h':H b=none):a≠b:=by intro e;subst e;rw[h]at h';cases h'
section
variable(P:Program)(w:World)
noncomputable def b9(H:Hp)(h:Heap)(a:Addr):HO->Prop
 | .lst xs=>xs.length<=sizeLine/\∃(its:List Value)(n:Nat),Vals xs its/\h.get? a=some {cls:=.type "list",data:=.seq its.toArray n}
 | .tup xs=>xs.length<=sizeLine/\∃its:List Value,Vals xs its/\IsTup h a its.toArray
 | .dK kvs=>kvs.length<=sizeLine/\(a==sysModules)=false/\∃vs,KV kvs vs/\h.DictOf (bx P w) a vs
 | .dT kvs=>kvs.length<=sizeLine/\(a==sysModules)=false/\∃xs:List (List Key×Addr×Value),
  Paired (fun(p:List Key×V) (q:List Key×Addr×Value)=>p.1=q.1/\H q.2.1=some (.tup (p.1.map kV))/\RelV p.2 q.2.2) kvs xs/\
  ∃o es ep,h.get? a=some o/\o.ExactDict/\o.data=.dict es ep/\es.toList=xs.map (entryOfKey (tupleKind (bx P w)))/\(xs.map (·.1)).Nodup
 | .set S n=>h.SetOf (intKind P w) a S n
 | .ins C dx fs=>H dx=some (.own a)/\fs.length<=1000/\dx≠a/\h.get? a=some (PySem.W.instObj C dx)/\
  ∃mA,h.Ns1 dx mA/\(∀f,iq (fs.lookup f) (mA f))/\PySem.Within mA (fs.map (·.1))
 | .own _=>∃o,h.get? a=some o
 | .xd fs=>∃mA,h.Ns1 a mA/\∀f,iq (fs.lookup f) (mA f)
 | .rng lo hi=>∃t u v,h.get? a=some {cls:=.type "range",data:=.fields #[.int lo t,.int hi u,.int 1 v]}
 | .frz o u=>h.get? a=some o/\b9 H h a u
 | .tbl ps=>h.get? a=some {cls:=.none,data:=.fields ps}
 | .met f x=>h.get? a=some (PySem.W.methodObj (.ref f) (.ref x))
 | .ext φ=>φ h/\(∃o,h.get? a=some o)/\∀h1 h2:Heap,φ h1->(∀o,h1.get? a=some o->h2.get? a=some o)->φ h2
def HOk(H:Hp)(h:Heap):Prop:=∀a o,H a=some o->b9 P w H h a o
end
section
variable{P:Program}{w:World}{H H':Hp}{h h':Heap}{a:Addr}{o:HO}
theorem b9.lt(x:b9 P w H h a o):a<h.objs.size:=by
 cases o with
 |lst xs=>obtain⟨_,_,_,_,e⟩:=x;exact GG e
 |tup xs=>obtain⟨_,_,_,p⟩:=x;exact p.lt
 |dK kvs=>obtain⟨_,_,_,_,o,_,_,e,_⟩:=x;exact GG e
 |dT kvs=>obtain⟨_,_,_,_,o,_,_,e,_⟩:=x;exact GG e
 |set S n=>obtain⟨o,_,_,_,e,_⟩:=x;exact GG e
 |ins C dx fs=>obtain⟨_,_,_,e,_⟩:=x;exact GG e
 |own y=>obtain⟨_,e⟩:=x;exact GG e
 |xd fs=>obtain⟨_,⟨_,_,_,e,_⟩,_⟩:=x;exact GG e
 |rng lo hi=>obtain⟨_,_,_,e⟩:=x;exact GG e
 |frz ob u=>obtain⟨e,_⟩:=x;exact GG e
 |tbl ps=>exact GG (show h.get? a=some _ from x)
 |met f y=>exact GG (show h.get? a=some _ from x)
 |ext φ=>obtain⟨_,⟨_,e⟩,_⟩:=x;exact GG e
theorem Paired.mapP{α β:Type}{F G:α->β->Prop}{l₁:List α}{l₂:List β}(hI:Paired F l₁ l₂):(∀a b,F a b->G a b)->Paired G l₁ l₂:=by
 induction hI with
 |nil=>exact fun _=>.nil
 |cons r t ih=>exact fun f=>.cons (f _ _ r) (ih f)
theorem b9.stay(x:b9 P w H h a o)(k:∀b u,(b=a\/H b=some (.own a))->h.get? b=some u->h'.get? b=some u)
  (ho:∀b,H b=some (.own a)->H' b=some (.own a)) (ht:∀b xs,H b=some (.tup xs)->H' b=some (.tup xs)):b9 P w H' h' a o:=by
 induction o with
 |lst xs=>obtain⟨z,its,n,r,e⟩:=x;exact⟨z,its,n,r,k _ _ (.inl rfl) e⟩
 |tup xs=>obtain⟨z,its,r,ob,e,c⟩:=x;exact⟨z,its,r,ob,k _ _ (.inl rfl) e,c⟩
 |dK kvs=>obtain⟨z,y,vs,r,ob,es,ep,e,c⟩:=x;exact⟨z,y,vs,r,ob,es,ep,k _ _ (.inl rfl) e,c⟩
 |dT kvs=>obtain⟨z,y,xs,r,ob,es,ep,e,c⟩:=x;exact⟨z,y,xs,Paired.mapP r fun p q z=>⟨z.1,ht _ _ z.2.1,z.2.2⟩,ob,es,ep,k _ _ (.inl rfl) e,c⟩
 |set S n=>obtain⟨ob,es,ep,t,e,c⟩:=x;exact⟨ob,es,ep,t,k _ _ (.inl rfl) e,c⟩
 |ins C dx fs=>obtain⟨d,z,ne,e,mA,⟨od,es,ep,e2,c⟩,r⟩:=x;exact⟨ho _ d,z,ne,k _ _ (.inl rfl) e,mA,⟨od,es,ep,k _ _ (.inr d) e2,c⟩,r⟩
 |own y=>obtain⟨ob,e⟩:=x;exact⟨ob,k _ _ (.inl rfl) e⟩
 |xd fs=>obtain⟨mA,⟨od,es,ep,e,c⟩,r⟩:=x;exact⟨mA,⟨od,es,ep,k _ _ (.inl rfl) e,c⟩,r⟩
 |rng lo hi=>obtain⟨t,u,v,e⟩:=x;exact⟨t,u,v,k _ _ (.inl rfl) e⟩
 |frz ob u ih=>obtain⟨e,q⟩:=x;exact⟨k _ _ (.inl rfl) e,ih q⟩
 |tbl ps=>have e:h.get? a=some {cls:=.none,data:=.fields ps}:=x;show h'.get? a=some {cls:=.none,data:=.fields ps};exact k a _ (.inl rfl) e
 |met f y=>have e:h.get? a=some (PySem.W.methodObj (.ref f) (.ref y)):=x;show h'.get? a=some (PySem.W.methodObj (.ref f) (.ref y));exact k a _ (.inl rfl) e
 |ext φ=>obtain⟨p,⟨o,e⟩,st⟩:=x;exact⟨st _ _ p fun o q=>k _ _ (.inl rfl) q,⟨o,k _ _ (.inl rfl) e⟩,st⟩
theorem HOk.lt(x:HOk P w H h)(e:H a=some o):a<h.objs.size:=(x a o e).lt
theorem HOk.fresh(x:HOk P w H h)(e:h.objs.size<=a):H a=none:=by
 cases q:H a with
 |none=>rfl
 |some u=>exact absurd (Gx (x.lt q) e) (HW _)
theorem HOk.kept(x:HOk P w H h)(k:∀b u,h.get? b=some u->h'.get? b=some u):HOk P w H h':=fun a o e=>(x a o e).stay (fun b u _ q=>k b u q) (fun _ q=>q) fun _ _ q=>q
theorem HOk.laid(x:HOk P w H h)(k:∀b u,h.get? b=some u->h'.get? b=some u)(hp:h.objs.size<=a)(new:b9 P w (upd H a o) h' a o):HOk P w (upd H a o) h':=fun b u e=>by
 have hn:=x.fresh hp;by_cases hb:b=a
 ·subst hb;rw[af]at e;cases e;exact new
 ·rw[av hb]at e;exact(x b u e).stay (fun c v _ q=>k c v q) (fun c q=>by rw[av (c9 q hn)];exact q) fun c xs q=>by rw[av (c9 q hn)];exact q
end
def Rd(H:Hp)(a:Addr)(u:HO):Prop:=H a=some u\/∃o,H a=some (.frz o u)
theorem Rd.ok{P:Program}{w:World}{H:Hp}{h:Heap}{a:Addr}{u:HO}(r:Rd H a u)(x:HOk P w H h):b9 P w H h a u:=by
 rcases r with r|⟨o,r⟩
 ·exact x a u r
 ·obtain⟨_,q⟩:=x a _ r;exact q
noncomputable def Mut:Option HO->Prop
 |some (.lst _)=>True
 |some (.dK _)=>True
 |some (.dT _)=>True
 |some (.set _ _)=>True
 |some (.ins _ _ _)=>True
 |some (.ext _)=>True
 |_=>False
section
variable{P:Program}{w:World}{H:Hp}{h h':Heap}{x e:Addr}{o':HO}
theorem HOk.write(ok:HOk P w H h)(mu:Mut (H x))(he:e=x\/H e=some (.own x))(k:∀b u,b≠e->h.get? b=some u->h'.get? b=some u)(heo:∃u,h'.get? e=some u)
  (new:b9 P w (upd H x o') h' x o'):HOk P w (upd H x o') h':=fun b u q=>by
 have nown:∀c y,H c=some (.own y)->c≠x:=fun c y r z=>by subst z;rw[r]at mu;exact mu
 have ntup:∀c xs,H c=some (.tup xs)->c≠x:=fun c xs r z=>by subst z;rw[r]at mu;exact mu
 by_cases hb:b=x
 ·subst hb;rw[af]at q;cases q;exact new
 ·rw[av hb]at q;by_cases hbe:b=e
  ·have q':H b=some (.own x):=by
    rcases he with z|z
    ·exact absurd (hbe.trans z) hb
    ·rw[hbe];exact z
   rw[q]at q';cases q';obtain⟨v,hv⟩:=heo;exact⟨v,by rw[hbe];exact hv⟩
  ·refine(ok b u q).stay (fun c v hc r=>k c v ?_ r) (fun c r=>by rw[av (nown c b r)];exact r) fun c xs r=>by rw[av (ntup c xs r)];exact r
   rcases hc with rfl|hc
   ·exact hbe
   ·rintro rfl;rcases he with z|z
    ·exact nown c b hc z
    ·rw[hc]at z;cases z;exact hb rfl
end
structure Un(fs ex:List Addr)(H H':Hp)(h h':Heap):Prop where
 keep:∀b o,h.get? b=some o->H b=none->b∉fs->b∉ex->h'.get? b=some o
 slot:∀b o,h.get? b=some o->H b=none->b∈fs->b∉ex->∃sl,h'.get? b=some {o with slots:=sl}
 free:∀b o,h.get? b=some o->H b=none->b∉ex->H' b=none
 there:∀b o,h.get? b=some o->b∉ex->∃o',h'.get? b=some o'
 tups:∀b xs,H b=some (.tup xs)->H' b=some (.tup xs)
 frzs:∀b o u,H b=some (.frz o u)->H' b=some (.frz o u)
 tbls:∀b ps,H b=some (.tbl ps)->∃more,H' b=some (.tbl (ps++more))
section
variable{fs fs' ex ex':List Addr}{H H1 H2:Hp}{h h1 h2 h':Heap}{a x e:Addr}{o:HO}
theorem Un.any(u:Un fs ex H H1 h h1){b:Addr}{ob:Obj}(q:h.get? b=some ob)(n:H b=none)(hx:b∉ex):∃sl,h1.get? b=some {ob with slots:=sl}:=by
 by_cases hb:b∈fs
 ·exact u.slot b ob q n hb hx
 ·exact⟨ob.slots,u.keep b ob q n hb hx⟩
theorem Un.kept(k:∀b u,h.get? b=some u->h'.get? b=some u):Un fs ex H H h h':=
 ⟨fun b ob q _ _ _=>k b ob q,fun b ob q _ _ _=>⟨ob.slots,k b ob q⟩,fun _ _ _ n _=>n,fun b ob q _=>⟨ob,k b ob q⟩,fun _ _ q=>q,fun _ _ _ q=>q,fun _ ps q=>⟨#[],by rw[q];simp⟩⟩
theorem Un.refl:Un fs ex H H h h:=Un.kept fun _ _ q=>q
theorem Un.laid(k:∀b u,h.get? b=some u->h'.get? b=some u)(hp:h.objs.size<=a)(hn:H a=none):Un fs ex H (upd H a o) h h' where
 keep:=fun b u q _ _ _=>k b u q
 slot:=fun b u q _ _ _=>⟨u.slots,k b u q⟩
 free:=fun b u q n _=>by rw[av (G5 (Gx (GG q) hp))];exact n
 there:=fun b u q _=>⟨u,k b u q⟩
 tups:=fun b xs q=>by rw[av (c9 q hn)];exact q
 frzs:=fun b u xs q=>by rw[av (c9 q hn)];exact q
 tbls:=fun b ps q=>⟨#[],by rw[av (c9 q hn),q];simp⟩
theorem Un.write(mu:Mut (H x))(he:e=x\/H e=some (.own x))(k:∀b u,b≠e->h.get? b=some u->h'.get? b=some u)(heo:∃u,h'.get? e=some u):Un fs ex H (upd H x o) h h':=by
 have hx:∀b,H b=none->b≠x:=fun b n z=>by subst z;rw[n]at mu;exact mu
 have hb:∀b,H b=none->b≠e:=fun b n z=>by
  subst z;rcases he with r|r
  ·exact hx b n r
  ·rw[n]at r;cases r
 have hm:∀b u,H b=some u->¬Mut (some u)->b≠x:=fun b u q nm z=>by subst z;rw[q]at mu;exact nm mu
 refine⟨fun b u q n _ _=>k b u (hb b n) q,fun b u q n _ _=>⟨u.slots,k b u (hb b n) q⟩,fun b u q n _=>by rw[av (hx b n)];exact n,fun b u q _=>?_,
  fun b xs q=>by rw[av (hm b _ q fun z=>z)];exact q,fun b u xs q=>by rw[av (hm b _ q fun z=>z)];exact q,fun b ps q=>⟨#[],by rw[av (hm b _ q fun z=>z),q];simp⟩⟩
 by_cases hbe:b=e
 ·subst hbe;exact heo
 ·exact⟨u,k b u hbe q⟩
end
noncomputable def trk(h:Heap)(H:Hp):List Addr:=(List.range h.objs.size).filter fun a=>(H a).isSome
noncomputable def t9(h:Heap)(H:Hp):Heap:=PySem.W.hideAll h (trk h H)
theorem yK(h:Heap)(H:Hp):(t9 h H).objs.size=h.objs.size:=PySem.W.hideAll_size _ _
theorem As{h:Heap}{H:Hp}{b:Addr}{o:Obj}(e:h.get? b=some o)(n:H b=none):(t9 h H).get? b=some o:=
 PySem.W.hideAll_get _ e fun hm=>by have q:(H b).isSome=true:=(HK.mp hm).2;rw[n]at q;simp at q
theorem BU{h:Heap}{H:Hp}{b:Addr}{o:Obj}(e:(t9 h H).get? b=some o):h.get? b=some o/\H b=none:=by
 have e':h.get? b=some o:=PySem.W.of_hideAll (trk h H) e;refine⟨e',?_⟩;cases q:H b with
 |none=>rfl
 |some x=>have hm:b∈trk h H:=HK.mpr ⟨G7.mpr (GG e'),by simp[q]⟩;have z:(t9 h H).get? b=none:=PySem.W.hideAll_none (trk h H) hm;rw[z]at e;cases e
structure Mod(K:Frag)(mg:Str->Option Value)(base:Heap):Prop where
 kin:K.In base
 glob:base.Ns mainGlobals mg
 blt:∃mb,base.Ns builtinsNs mb/\∀x:Str,x≠"__name__"->mb x=bootBuiltins x
 nolimit:base.NoLimit
structure Cx where
 prog:Program
 w:World
 K:Frag
 mg:Str->Option Value
 base:Heap
 A:Around
 N:List Str
 s₀:Shared
 H₀:Hp
 env:Env
 outer:List Env
 stack:List Env
 ex:List Addr
 fn:Str->Bool
 calm:Bool
 pn:List (Addr×Obj)
 xe:Value->Shared->Prop
noncomputable def frs(l:List Env):List Addr:=l.filterMap (·.frame)
noncomputable abbrev Cx.fs(X:Cx):List Addr:=frs X.outer
def Vis(sc:Scope)(x:Str):Prop:=sc.names.lookup x=some .local\/sc.names.lookup x=some .cell\/sc.names.lookup x=some .free
def Loc(sc:Scope)(x:Str):Prop:=sc.names.lookup x=some .local\/sc.names.lookup x=some .cell
def Look(env:Env)(h:Heap)(m:Str->Option Value)(x:Str)(u:Value):Prop:=
 (env.kindOf x=some .local/\m x=some u)\/((env.kindOf x=some .cell\/env.kindOf x=some .free)/\∃c,env.cells.lookup x=some c/\h.IsCell c (some u))
structure Cx.Ok(X:Cx):Prop where
 mod:Mod X.K X.mg X.base
 kind:X.env.scope.kind=.function
 glob:X.env.globals=mainGlobals
 blt:X.env.builtins=builtinsNs
 above:X.s₀.heap.objs.size<=X.env.locals
 inj:∀x y c,X.env.cells.lookup x=some c->X.env.cells.lookup y=some c->x=y
 has:∀x,(X.env.kindOf x=some .cell\/X.env.kindOf x=some .free)->∃c,X.env.cells.lookup x=some c
 cab:∀x c,X.fn x=true->X.env.cells.lookup x=some c->X.s₀.heap.objs.size<=c
 hd:X.calm=true->X.A.handled=none
 frames:X.A.frames=some X.stack
 stk:X.stack=X.outer\/(X.stack=X.env::X.outer/\X.env.frame=some X.env.locals)
 exf:∀b∈X.ex,b≠X.env.locals/\∀x c,X.env.cells.lookup x=some c->c≠b
 bs:∀b o,X.base.get? b=some o->X.s₀.heap.get? b=some o/\X.H₀ b=none
 bsz:X.base.objs.size<=X.s₀.heap.objs.size
 noex:∀b o,X.base.get? b=some o->b∉X.ex
 exfs:∀b∈X.ex,b∉X.fs
 funs:X.s₀.heap.FunFrames X.base X.outer
 frf:∀b∈X.fs,X.H₀ b=none
structure Inv(X:Cx)(pins:List (Addr×Obj))(σ:List (Option V))(H:Hp)(s:Shared):Prop where
 ok:X.Ok
 os:s.os=X.s₀.os
 bare:AllBare s.gens
 base:Un X.fs X.ex X.H₀ H X.s₀.heap s.heap
 loc:∃m,s.heap.Ns X.env.locals m/\∀(i:Nat)(x:Str)(v:V),X.N[i]?=some x->σ[i]?=some (some v)->Vis X.env.scope x->∃u,RelV v u/\Look X.env s.heap m x u
 cell:∀x c,X.env.cells.lookup x=some c->∃v,s.heap.IsCell c v
 free:H X.env.locals=none
 freeC:∀x c,X.env.cells.lookup x=some c->H c=none
 pin:∀p∈X.pn++pins,s.heap.get? p.1=some p.2/\H p.1=none/\p.1≠X.env.locals/\p.1∉X.fs/\∀v,p.2.data≠ .cell v
 hok:HOk X.prog X.w H s.heap
 len:σ.length=X.N.length
section
variable{X:Cx}{pins:List (Addr×Obj)}{σ:List (Option V)}{H H':Hp}{s:Shared}{h':Heap}
theorem Cx.Ok.nofr(ok:X.Ok){b:Addr}{o:Obj}(e:X.base.get? b=some o):b∉X.fs:=fun hb=>by have:=(ok.funs.mem hb).1;rw[e]at this;cases this
theorem Inv.bs(I:Inv X pins σ H s):∀b o,X.base.get? b=some o->s.heap.get? b=some o/\H b=none:=fun b o e=>⟨I.base.keep b o (I.ok.bs b o e).1 (I.ok.bs b o e).2 (I.ok.nofr e) (I.ok.noex b o e),I.base.free b o (I.ok.bs b o e).1 (I.ok.bs b o e).2 (I.ok.noex b o e)⟩
theorem Inv.bk(I:Inv X pins σ H s):∀b o,X.base.get? b=some o->s.heap.get? b=some o:=fun b o e=>(I.bs b o e).1
theorem Inv.mod(I:Inv X pins σ H s):Mod X.K X.mg X.base:=I.ok.mod
theorem Inv.kIn(I:Inv X pins σ H s):X.K.In s.heap:=I.ok.mod.kin.keeps I.bk
theorem Inv.lt(I:Inv X pins σ H s):X.env.locals<s.heap.objs.size:=let ⟨_,hn,_⟩:=I.loc;hn.lt
theorem Inv.sz(I:Inv X pins σ H s):X.s₀.heap.objs.size<=s.heap.objs.size:=G0 I.ok.above (HQ I.lt)
theorem Inv.nofs(I:Inv X pins σ H s){a:Addr}(h:s.heap.objs.size<=a):a∉X.fs:=fun hb=>by obtain⟨_,o,ho,_⟩:=I.ok.funs.mem hb;exact absurd (Gx (GG ho) (G0 I.sz h)) (HW _)
theorem Inv.cne(I:Inv X pins σ H s):∀x c,X.env.cells.lookup x=some c->c≠X.env.locals:=fun x c e z=>by obtain⟨v,o,ho,hd⟩:=I.cell x c e;obtain⟨m,⟨o',es,ep,ho',hd',_⟩,_⟩:=I.loc;rw[z,ho']at ho;cases ho;rw[hd']at hd;cases hd
theorem Inv.funs(I:Inv X pins σ H s):s.heap.FunFrames X.base X.outer:=by
 have all:∀(l:List Env),(∀b∈frs l,b∈X.fs)->X.s₀.heap.FunFrames X.base l->s.heap.FunFrames X.base l:=by
  intro l
  induction l with
  |nil=>intro _ _;trivial
  |cons env r ih=>intro hs hl;obtain⟨hk,⟨L,o,hf,hn,ho,hd⟩,hr⟩:=hl;have hL:L∈X.fs:=hs L (by unfold frs;rw[List.filterMap_cons,hf];exact Gy);obtain⟨sl,e⟩:=I.base.slot L o ho (I.ok.frf L hL) hL fun z=>I.ok.exfs L z hL;exact⟨hk,⟨L,_,hf,hn,e,hd⟩,ih (fun b hb=>hs b (by unfold frs;rw[List.filterMap_cons,hf];exact Gs _ hb)) hr⟩
 exact all X.outer (fun _ hb=>hb) I.ok.funs
theorem Inv.stack(I:Inv X pins σ H s):s.heap.FunFrames X.base X.stack:=by
 rcases I.ok.stk with e|⟨e,hf⟩
 ·rw[e];exact I.funs
 ·rw[e];obtain⟨m,hn,_⟩:=I.loc;refine .cons (by rw[I.ok.kind];decide) hf hn ?_ I.funs;exact Heap.get?_none_of_le (G0 I.ok.bsz I.ok.above)
theorem Inv.stkSub(I:Inv X pins σ H s):∀b∈frs X.stack,b∈X.env.locals::X.fs:=fun b hb=>by
 rcases I.ok.stk with e|⟨e,hf⟩
 ·rw[e]at hb;exact Gs _ hb
 ·rw[e]at hb;unfold frs at hb;rw[List.filterMap_cons,hf]at hb;exact hb
theorem Inv.stkFree(I:Inv X pins σ H s):∀b∈frs X.stack,H b=none:=fun b hb=>by
 rcases GH.mp (I.stkSub b hb)with e|hb
 ·rw[e];exact I.free
 ·obtain⟨_,o,ho,_⟩:=I.ok.funs.mem hb;exact I.base.free b o ho (I.ok.frf b hb) fun z=>I.ok.exfs b z hb
theorem Inv.step{g':Array GenState}{t':Nat}{d':Drawn}{ch:List Addr}(I:Inv X pins σ H s)
  (hch:∀b∈ch,(b∈X.ex\/X.s₀.heap.objs.size<=b)/\b≠X.env.locals/\(∀x c,X.env.cells.lookup x=some c->c≠b)/\∀p∈X.pn++pins,p.1≠b)
  (keep:∀b o,b≠X.env.locals->b∉X.fs->b∉ch->s.heap.get? b=some o->H b=none->h'.get? b=some o)
  (slot:∀b o,b≠X.env.locals->b∈X.fs->b∉ch->s.heap.get? b=some o->H b=none->∃sl,h'.get? b=some {o with slots:=sl}) (free:∀b o,b∉ch->s.heap.get? b=some o->H b=none->H' b=none)
  (there:∀b o,b∉ch->s.heap.get? b=some o->∃o',h'.get? b=some o')
  (tups:∀b xs,H b=some (.tup xs)->H' b=some (.tup xs)) (frzs:∀b o u,H b=some (.frz o u)->H' b=some (.frz o u)) (tbls:∀b ps,H b=some (.tbl ps)->∃more,H' b=some (.tbl (ps++more)))
  (ns:∀m,s.heap.Ns X.env.locals m->h'.Ns X.env.locals m) (hok:HOk X.prog X.w H' h') (hg:AllBare g'):
  Inv X pins σ H' {s with heap:=h',gens:=g',drawn:=d',toks:=t'}:=by
 have neL:∀b o,X.s₀.heap.get? b=some o->b≠X.env.locals:=fun b o e=>G5 (Gx (GG e) I.ok.above);have neC:∀b o,X.s₀.heap.get? b=some o->b∉X.ex->b∉ch:=fun b o e hx hb=>by
  rcases (hch b hb).1 with z|z
  ·exact hx z
  ·exact absurd (Gx (GG e) z) (HW _)
 have cellK:∀x c,X.env.cells.lookup x=some c->∀v,s.heap.IsCell c v->h'.IsCell c v:=fun x c e v ⟨o,ho,hd⟩=>by
  have nch:c∉ch:=fun z=>(hch c z).2.2.1 x c e rfl;by_cases hc:c∈X.fs
  ·obtain⟨sl,q⟩:=slot c o (I.cne x c e) hc nch ho (I.freeC x c e);exact⟨_,q,hd⟩
  ·exact⟨o,keep c o (I.cne x c e) hc nch ho (I.freeC x c e),hd⟩
 refine⟨I.ok,I.os,hg,⟨fun b o e n hb hx=>?_,fun b o e n hb hx=>?_,fun b o e n hx=>?_,fun b o e hx=>?_,fun b xs e=>tups b xs (I.base.tups b xs e),fun b o xs e=>frzs b o xs (I.base.frzs b o xs e),fun b ps e=>?_⟩,?_,fun x c e=>?_,?_,fun x c e=>?_,fun p hp=>?_,hok,I.len⟩
 ·exact keep b o (neL b o e) hb (neC b o e hx) (I.base.keep b o e n hb hx) (I.base.free b o e n hx)
 ·obtain⟨sl,e1⟩:=I.base.slot b o e n hb hx;obtain⟨sl',e2⟩:=slot b _ (neL b o e) hb (neC b o e hx) e1 (I.base.free b o e n hx);exact⟨sl',e2⟩
 ·obtain⟨o',e1⟩:=I.base.there b o e hx;exact free b o' (neC b o e hx) e1 (I.base.free b o e n hx)
 ·obtain⟨o',e1⟩:=I.base.there b o e hx;exact there b o' (neC b o e hx) e1
 ·obtain⟨m1,e1⟩:=I.base.tbls b ps e;obtain⟨m2,e2⟩:=tbls b _ e1;exact⟨m1++m2,by rw[e2,Array.append_assoc]⟩
 ·obtain⟨m,hn,hl⟩:=I.loc;refine⟨m,ns m hn,fun i x v e1 e2 e3=>?_⟩;obtain⟨u,r,l⟩:=hl i x v e1 e2 e3;refine⟨u,r,?_⟩;rcases l with l|⟨k,c,e,z⟩
  ·exact .inl l
  ·exact .inr ⟨k,c,e,cellK x c e _ z⟩
 ·obtain⟨v,z⟩:=I.cell x c e;exact⟨v,cellK x c e v z⟩
 ·obtain⟨m,⟨o,_,_,ho,_⟩,_⟩:=I.loc;exact free _ o (fun z=>(hch _ z).2.1 rfl) ho I.free
 ·obtain⟨v,o,ho,hd⟩:=I.cell x c e;exact free c o (fun z=>(hch c z).2.2.1 x c e rfl) ho (I.freeC x c e)
 ·obtain⟨e,n,ne,nf,d⟩:=I.pin p hp;have nch:p.1∉ch:=fun z=>(hch p.1 z).2.2.2 p hp rfl;exact⟨keep p.1 p.2 ne nf nch e n,free p.1 p.2 nch e n,ne,nf,d⟩
theorem Inv.un{t':Nat}(I:Inv X pins σ H s)(u:Un X.fs [] H H' s.heap h')(hok:HOk X.prog X.w H' h'):Inv X pins σ H' {s with heap:=h',toks:=t'}:=by
 obtain⟨m,⟨o,es,ep,ho,r⟩,_⟩:=id I.loc;obtain⟨sl,hL⟩:=u.any ho I.free (by simp)
 exact I.step (g':=s.gens) (d':=s.drawn) (ch:=[]) (fun _ z=>nomatch z) (fun b o _ hb _ e n=>u.keep b o e n hb (by simp)) (fun b o _ hb _ e n=>u.slot b o e n hb (by simp)) (fun b o _ e n=>u.free b o e n (by simp)) (fun b o _ e=>u.there b o e (by simp)) u.tups u.frzs u.tbls (fun m' hm=>by
  obtain⟨o',es',ep',ho',r'⟩:=hm;rw[ho]at ho';cases ho'
  exact⟨_,es',ep',hL,r'⟩) hok I.bare
theorem Inv.call{g':Array GenState}{t':Nat}{d':Drawn}{ch:List Addr}(I:Inv X pins σ H s)(u:Un (frs X.stack) ch H H' s.heap h')(hok:HOk X.prog X.w H' h')(hg:AllBare g')
  (hch:∀b∈ch,(b∈X.ex\/X.s₀.heap.objs.size<=b)/\b≠X.env.locals/\(∀x c,X.env.cells.lookup x=some c->c≠b)/\∀p∈X.pn++pins,p.1≠b):
  Inv X pins σ H' {s with heap:=h',gens:=g',drawn:=d',toks:=t'}:=by
 obtain⟨m,⟨o,es,ep,ho,r⟩,_⟩:=id I.loc;obtain⟨sl,hL⟩:=u.any ho I.free fun z=>(hch _ z).2.1 rfl
 exact I.step (ch:=ch) hch (fun b o hL hb hc e n=>u.keep b o e n (fun z=>(GH.mp (I.stkSub b z)).elim hL hb) hc) (fun b o _ _ hc e n=>u.any e n hc) (fun b o hc e n=>u.free b o e n hc) (fun b o hc e=>u.there b o e hc) u.tups u.frzs u.tbls (fun m' hm=>by
  obtain⟨o',es',ep',ho',r'⟩:=hm;rw[ho]at ho';cases ho'
  exact⟨_,es',ep',hL,r'⟩) hok hg
theorem Inv.turned{t':Nat}{it:Addr}(I:Inv X pins σ H s)(k:∀b o,b≠it->s.heap.get? b=some o->h'.get? b=some o)(hn:H it=none)(hL:it≠X.env.locals)
  (h1:it∈X.ex\/X.s₀.heap.objs.size<=it) (h2:∀x c,X.env.cells.lookup x=some c->c≠it) (h3:∀p∈X.pn++pins,p.1≠it):Inv X pins σ H {s with heap:=h',toks:=t'}:=by
 have nit:∀b u,H b=some u->b≠it:=fun b u e z=>by rw[z,hn]at e;cases e
 refine I.step (g':=s.gens) (d':=s.drawn) (ch:=[it]) (fun b hb=>?_) (fun b o _ _ hc e _=>k b o (fun z=>hc (by simp[z])) e) (fun b o _ _ hc e _=>⟨o.slots,k b o (fun z=>hc (by simp[z])) e⟩) (fun _ _ _ _ n=>n)
  (fun b o hc e=>⟨o,k b o (fun z=>hc (by simp[z])) e⟩) (fun _ _ e=>e) (fun _ _ _ e=>e) (fun b ps e=>⟨#[],by rw[e];simp⟩) (fun m hm=>?_) (fun b u e=>?_) I.bare
 ·have e:b=it:=by simpa using hb
  subst e;exact⟨h1,hL,h2,h3⟩
 ·obtain⟨o,es,ep,ho,r⟩:=hm;exact⟨o,es,ep,k _ o (HB hL) ho,r⟩
 ·refine(I.hok b u e).stay (fun c v hc q=>k c v ?_ q) (fun _ q=>q) fun _ _ q=>q;rcases hc with z|z
  ·rw[z];exact nit b u e
  ·exact nit c _ z
theorem Inv.tok(I:Inv X pins σ H s)(t:Nat):Inv X pins σ H {s with toks:=t}:=I.un (h':=s.heap) (t':=t) Un.refl I.hok
theorem Inv.kept{t':Nat}(I:Inv X pins σ H s)(k:∀b u,s.heap.get? b=some u->h'.get? b=some u):Inv X pins σ H {s with heap:=h',toks:=t'}:=I.un (Un.kept k) (I.hok.kept k)
theorem Inv.laid{a:Addr}{o:HO}{t':Nat}(I:Inv X pins σ H s)(k:∀b u,s.heap.get? b=some u->h'.get? b=some u)(hp:s.heap.objs.size<=a)(new:b9 X.prog X.w (upd H a o) h' a o):
 Inv X pins σ (upd H a o) {s with heap:=h',toks:=t'}:=I.un (Un.laid k hp (I.hok.fresh hp)) (I.hok.laid k hp new)
theorem Inv.write{x e:Addr}{o:HO}{t':Nat}(I:Inv X pins σ H s)(mu:Mut (H x))(he:e=x\/H e=some (.own x))(k:∀b u,b≠e->s.heap.get? b=some u->h'.get? b=some u)(heo:∃u,h'.get? e=some u)
 (new:b9 X.prog X.w (upd H x o) h' x o):Inv X pins σ (upd H x o) {s with heap:=h',toks:=t'}:=I.un (Un.write mu he k heo) (I.hok.write mu he k heo new)
theorem Inv.weak{σ':List (Option V)}(I:Inv X pins σ H s)(hl:σ'.length=σ.length)(w:∀(i:Nat) v,σ'[i]?=some (some v)->σ[i]?=some (some v)):Inv X pins σ' H s:=
 ⟨I.ok,I.os,I.bare,I.base,let ⟨m,hn,hl'⟩:=I.loc;⟨m,hn,fun i x v e1 e2 e3=>hl' i x v e1 (w i v e2) e3⟩,I.cell,I.free,I.freeC,I.pin,I.hok,hl.trans I.len⟩
theorem Inv.pins_of{pins':List (Addr×Obj)}(I:Inv X pins σ H s)(h:∀p∈pins',s.heap.get? p.1=some p.2/\H p.1=none/\p.1≠X.env.locals/\p.1∉X.fs/\∀v,p.2.data≠ .cell v):Inv X pins' σ H s:=
 ⟨I.ok,I.os,I.bare,I.base,I.loc,I.cell,I.free,I.freeC,fun p hp=>(Gv.mp hp).elim (fun z=>I.pin p (GI _ z)) (h p),I.hok,I.len⟩
theorem qh{N:List Str}(hN:N.Nodup){i j:Nat}{x:Str}(a:N[i]?=some x)(b:N[j]?=some x):i=j:=by obtain⟨h1,e1⟩:=GA.mp a;obtain⟨h2,e2⟩:=GA.mp b;exact(List.getElem_inj hN).mp (e1.trans e2.symm)
theorem rE{M:Model}{A:Around}{E:Value->Shared->Prop}{i:Nat}{x:Str}{v:V}{u:Value}{Q:Unit->Shared->Prop}(I:Inv X pins σ H s)(hN:X.N.Nodup)(hi:X.N[i]?=some x)(hx:Loc X.env.scope x)(r:RelV v u)
  (h:∀s',Inv X pins (σ.set i (some v)) H s'->(∃a,Heap.SameBut a s.heap s'.heap/\(a=X.env.locals\/X.env.cells.lookup x=some a))->Q () s') (hf:X.fn x=true\/X.env.scope.names.lookup x=some .local:=by first|exact .inl rfl|exact .inr rfl|assumption):wpAny M A (storeName X.env x u) Q E s:=by
 obtain⟨m,hn,hl⟩:=id I.loc;have hcls:(X.env.scope.kind== .class||(X.env.scope.kind== .module&&X.env.locals != X.env.globals))=false:=by rw[I.ok.kind];rfl
 have hiσ:i<σ.length:=by rw[I.len];exact(GA.mp hi).1
 have cne:=I.cne;have tracked:∀{a:Addr}{h':Heap},(∃o,s.heap.get? a=some o/\H a=none)->Heap.SameBut a s.heap h'->HOk X.prog X.w H h':=fun {a h'} ha hs b ob e=>by
  obtain⟨_,_,hfree⟩:=ha;refine(I.hok b ob e).stay (fun c w' hc q=>(hs.2 c ?_).trans q) (fun _ q=>q) fun _ _ q=>q;rintro rfl;rcases hc with rfl|hc
  ·rw[hfree]at e;cases e
  ·rw[hfree]at hc;cases hc
 rcases hx with hk|hk
 ·refine wpAny_storeName_local hk hn (fun h' hn' hs=>?_) hcls;obtain⟨oL,_,_,hoL,_⟩:=id hn;refine h _ ⟨I.ok,I.os,I.bare,⟨fun b o e n hb hx=>?_,fun b o e n hb hx=>?_,I.base.free,fun b o e hx=>?_,I.base.tups,I.base.frzs,I.base.tbls⟩,⟨_,hn',fun j y v' e1 e2 e3=>?_⟩,fun y c e=>?_,I.free,I.freeC,fun p hp=>?_,tracked ⟨oL,hoL,I.free⟩ hs,by simpa using I.len⟩ ⟨_,hs,.inl rfl⟩
  ·exact(hs.2 b (G5 (Gx (GG e) I.ok.above))).trans (I.base.keep b o e n hb hx)
  ·obtain⟨sl,e1⟩:=I.base.slot b o e n hb hx;exact⟨sl,(hs.2 b (G5 (Gx (GG e) I.ok.above))).trans e1⟩
  ·obtain⟨o',e1⟩:=I.base.there b o e hx;exact⟨o',(hs.2 b (G5 (Gx (GG e) I.ok.above))).trans e1⟩
  ·by_cases hj:j=i
   ·subst hj;rw[hi]at e1;cases e1;rw[List.getElem?_set_self hiσ]at e2;cases e2;exact⟨u,r,.inl ⟨hk,by simp⟩⟩
   ·rw[List.getElem?_set_ne (HB hj)]at e2;obtain⟨u',r',q⟩:=hl j y v' e1 e2 e3;refine⟨u',r',?_⟩;rcases q with⟨k,e⟩|⟨k,c,e,z⟩
    ·refine .inl ⟨k,?_⟩;have:y≠x:=fun e=>hj (qh hN e1 (e▸hi));simp[this,e]
    ·exact .inr ⟨k,c,e,z.sameBut hs (cne y c e)⟩
  ·obtain⟨w',z⟩:=I.cell y c e;exact⟨w',z.sameBut hs (cne y c e)⟩
  ·obtain⟨e,n,ne,nf,d⟩:=I.pin p hp;exact⟨(hs.2 p.1 ne).trans e,n,ne,nf,d⟩
 ·have hfn:X.fn x=true:=by
   rcases hf with z|z
   ·exact z
   ·rw[z]at hk;cases hk
  obtain⟨c,hc⟩:=I.ok.has x (.inl hk);obtain⟨w',z⟩:=I.cell x c hc;refine wpAny_storeName_cell I.ok.kind hk hc z (fun h' hc' hs=>?_);obtain⟨oc,hoc,hocd⟩:=id z;refine h {s with heap:=h'} ⟨I.ok,I.os,I.bare,⟨fun b o e n hb hx=>?_,fun b o e n hb hx=>?_,I.base.free,fun b o e hx=>?_,I.base.tups,I.base.frzs,I.base.tbls⟩,⟨m,hn.sameBut hs (HB (cne x c hc)),fun j y v' e1 e2 e3=>?_⟩,fun y c' e=>?_,I.free,I.freeC,fun p hp=>?_,tracked ⟨oc,hoc,I.freeC x c hc⟩ hs,by simpa using I.len⟩ ⟨c,hs,.inr hc⟩
  ·exact(hs.2 b (G5 (Gx (GG e) (I.ok.cab x c hfn hc)))).trans (I.base.keep b o e n hb hx)
  ·obtain⟨sl,e1⟩:=I.base.slot b o e n hb hx;exact⟨sl,(hs.2 b (G5 (Gx (GG e) (I.ok.cab x c hfn hc)))).trans e1⟩
  ·obtain⟨o',e1⟩:=I.base.there b o e hx;exact⟨o',(hs.2 b (G5 (Gx (GG e) (I.ok.cab x c hfn hc)))).trans e1⟩
  ·by_cases hj:j=i
   ·subst hj;rw[hi]at e1;cases e1;rw[List.getElem?_set_self hiσ]at e2;cases e2;exact⟨u,r,.inr ⟨.inl hk,c,hc,hc'⟩⟩
   ·rw[List.getElem?_set_ne (HB hj)]at e2;obtain⟨u',r',q⟩:=hl j y v' e1 e2 e3;refine⟨u',r',?_⟩;rcases q with q|⟨k,c',e,z'⟩
    ·exact .inl q
    ·refine .inr ⟨k,c',e,z'.sameBut hs ?_⟩;rintro rfl;exact hj (qh hN e1 (I.ok.inj _ _ _ e hc▸hi))
  ·by_cases hcc:c'=c
   ·subst hcc;exact⟨_,hc'⟩
   ·obtain⟨w2,z2⟩:=I.cell y c' e;exact⟨w2,z2.sameBut hs hcc⟩
  ·obtain⟨e,n,ne,nf,d⟩:=I.pin p hp;refine⟨(hs.2 p.1 ?_).trans e,n,ne,nf,d⟩;intro q;rw[q,hoc]at e;have q':oc=p.2:=G2 e;exact d w' (by rw[<-q'];exact hocd)
theorem pI{M:Model}{A:Around}{E:Value->Shared->Prop}{i:Nat}{x:Str}{v:V}{u:Value}{Q:Unit->Shared->Prop}(I:Inv X pins σ H s)(hN:X.N.Nodup)(hi:X.N[i]?=some x)(hx:Loc X.env.scope x)(r:RelV v u)
  (h:∀s',Inv X pins (σ.set i (some v)) H s'->Q () s') (hf:X.fn x=true\/X.env.scope.names.lookup x=some .local:=by first|exact .inl rfl|exact .inr rfl|assumption):wpAny M A (storeName X.env x u) Q E s:=
 rE I hN hi hx r (fun s' I' _=>h s' I') hf
theorem Inv.call'{s':Shared}{ch:List Addr}(I:Inv X pins σ H s)(ho:s'.os=s.os)(u:Un (frs X.stack) ch H H' s.heap s'.heap)(hok:HOk X.prog X.w H' s'.heap)(hg:AllBare s'.gens)
  (hch:∀b∈ch,(b∈X.ex\/X.s₀.heap.objs.size<=b)/\b≠X.env.locals/\(∀x c,X.env.cells.lookup x=some c->c≠b)/\∀p∈X.pn++pins,p.1≠b):Inv X pins σ H' s':=by
 obtain⟨h',g',d',t',o'⟩:=s';have e:o'=s.os:=ho;subst e;exact I.call (g':=g') (t':=t') (d':=d') u hok hg hch
end
noncomputable abbrev XK:=Value->Option Addr->Hp->Prop
noncomputable abbrev St:=List (Option V)
noncomputable abbrev VK:=V->Hp->Prop
noncomputable abbrev TE:=St->Hp->VK->Prop
noncomputable abbrev TT:=St->Hp->(Bool->Hp->Prop)->Prop
noncomputable abbrev TA:=St->Hp->(List V->Hp->Prop)->Prop
structure Ends where
 nx:St->Hp->Prop
 rt:VK
 bk:St->Hp->Prop:=fun _ _=>False
 ct:St->Hp->Prop:=fun _ _=>False
noncomputable abbrev TS:=Ends->St->Hp->Prop
def EP(X:Cx)(pins:List (Addr×Obj))(σ:St)(Q:VK)(u:Value)(s':Shared):Prop:=∃v H',Inv X pins σ H' s'/\RelV v u/\Q v H'
def TP(X:Cx)(pins:List (Addr×Obj))(σ:St)(Q:Bool->Hp->Prop)(b:Bool)(s':Shared):Prop:=∃H',Inv X pins σ H' s'/\Q b H'
def AP(X:Cx)(pins:List (Addr×Obj))(σ:St)(Q:List V->Hp->Prop)(us:List Value)(s':Shared):Prop:=∃vs H',Inv X pins σ H' s'/\Vals vs us/\Q vs H'
def SP(X:Cx)(pins:List (Addr×Obj))(D:Ends)(f:Flow)(s':Shared):Prop:=
 match f with
 | .next=>∃σ' H',Inv X pins σ' H' s'/\D.nx σ' H'
 | .brk=>∃σ' H',Inv X pins σ' H' s'/\D.bk σ' H'
 | .cont=>∃σ' H',Inv X pins σ' H' s'/\D.ct σ' H'
 | .ret u=>∃v σ' H',Inv X pins σ' H' s'/\RelV v u/\D.rt v H'
def PE(X:Cx)(e:Expr)(t:TE):Prop:=
 ∀(pins:List (Addr×Obj))(s:Shared)(σ:St)(H:Hp)(Q:VK),Inv X pins σ H s->t σ H Q->wpAny (model X.prog X.w) X.A (eval e X.env) (EP X pins σ Q) X.xe s
def PT(X:Cx)(e:Expr)(t:TT):Prop:=
 ∀(pins:List (Addr×Obj))(s:Shared)(σ:St)(H:Hp)(Q:Bool->Hp->Prop),Inv X pins σ H s->t σ H Q->wpAny (model X.prog X.w) X.A (isTrue e X.env (eval e X.env)) (TP X pins σ Q) X.xe s
def PW(X:Cx)(e:Expr)(t:TT):Prop:=
 ∀(whole:Sem Value)(pins:List (Addr×Obj))(s:Shared)(σ:St)(H:Hp)(Q:Bool->Hp->Prop),Inv X pins σ H s->t σ H Q->wpAny (model X.prog X.w) X.A (isTrue e X.env whole) (TP X pins σ Q) X.xe s
theorem PW.pt{X:Cx}{e:Expr}{t:TT}(h:PW X e t):PT X e t:=h _
def PA(X:Cx)(es:List Expr)(t:TA):Prop:=
 ∀(pos:Pos)(pins:List (Addr×Obj))(s:Shared)(σ:St)(H:Hp)(Q:List V->Hp->Prop),Inv X pins σ H s->t σ H Q->wpAny (model X.prog X.w) X.A (spliced (backTo pos (starEach es X.env))) (AP X pins σ Q) X.xe s
def PS(X:Cx)(st:Stmt)(t:TS):Prop:=
 ∀(pins:List (Addr×Obj))(s:Shared)(σ:St)(H:Hp)(D:Ends),Inv X pins σ H s->t D σ H->wpAny (model X.prog X.w) X.A (exec st X.env) (SP X pins D) X.xe s
def PSs(X:Cx)(st:List Stmt)(t:TS):Prop:=
 ∀(pins:List (Addr×Obj))(s:Shared)(σ:St)(H:Hp)(D:Ends),Inv X pins σ H s->t D σ H->wpAny (model X.prog X.w) X.A (execs st X.env) (SP X pins D) X.xe s
theorem thn{α:Type}{t:Sem α}{Q Q':α->Shared->Prop}{M:Model}{A:Around}{E:Value->Shared->Prop}{s:Shared}(h:wpAny M A t Q E s)(hQ:∀a s,Q a s->Q' a s):wpAny M A t Q' E s:=Ha h hQ fun _ _ x=>x
section
variable{X:Cx}
def EE(i:Nat):TE:=fun σ H Q=>∃v,σ[i]?=some (some v)/\Q v H
def tC(v:V):TE:=fun _ H Q=>Q v H
theorem DA{i:Nat}{x:Str}{pos:Pos}(hN:X.N[i]?=some x)(hv:Vis X.env.scope x)(hd:(x==("__debug__":Str))=false:=by decide)(hcd:(x==("__classdict__":Str))=false:=by decide):PE X (.Name x pos) (EE i):=by
 intro pins s σ H Q I h;obtain⟨v,e,h⟩:=h;obtain⟨m,hn,hl⟩:=I.loc;obtain⟨u,r,l⟩:=hl i x v hN e hv;have fin:EP X pins σ Q u s:=⟨v,H,I,r,h⟩;rcases l with⟨hk,hm⟩|⟨hk,c,hc,hcell⟩
 ·exact wpAny_Name (wpAny_loadName_local I.ok.kind hk hn hm fin) hd
 ·rcases hk with hk|hk
  ·exact wpAny_Name (wpAny_loadName_cell I.ok.kind hk hc hcell fin) hd
  ·exact wpAny_Name (wpAny_loadName_free I.ok.kind hk hc hcell fin hcd) hd
theorem ae{i j pos}:PE X (.Constant (.int i) j pos) (tC (.int i)):=fun _ _ _ H _ I h=>wpAny_Constant_int ⟨.int i,H,I.tok _,⟨_,rfl⟩,h⟩
theorem rO{b j pos}:PE X (.Constant (.bool b) j pos) (tC (.bl b)):=fun _ _ _ H _ I h=>Constant_bool ⟨.bl b,H,I,rfl,h⟩
theorem cL{j pos}:PE X (.Constant .none j pos) (tC .non):=fun _ _ _ H _ I h=>Constant_none ⟨.non,H,I,rfl,h⟩
theorem aR{x j pos}:PE X (.Constant (.str x) j pos) (tC (.str x)):=fun _ _ _ H _ I h=>Calls.Constant_str ⟨.str x,H,I.tok _,⟨_,rfl⟩,h⟩
def Gl(X:Cx)(x:Str):Prop:=X.env.kindOf x=some .globalImplicit
theorem jX{E:Value->Shared->Prop}{pins:List (Addr×Obj)}{s:Shared}{σ:St}{H:Hp}{x:Str}{u:Value}{pos:Pos}{Q:Value->Shared->Prop}(I:Inv X pins σ H s)(hg:Gl X x)(hm:X.mg x=some u)(h:Q u s)
  (hd:(x==("__debug__":Str))=false:=by decide):wpAny (model X.prog X.w) X.A (eval (.Name x pos) X.env) Q E s:=
 Calls.Name_function_global I.ok.kind hg (Calls.loadGlobal_global (by rw[I.ok.glob];exact I.mod.glob.keeps I.bk) hm h) hd
theorem lJ{E:Value->Shared->Prop}{pins:List (Addr×Obj)}{s:Shared}{σ:St}{H:Hp}{x:Str}{u:Value}{pos:Pos}{Q:Value->Shared->Prop}(I:Inv X pins σ H s)(hg:Gl X x)(hm:X.mg x=none)(hv:bootBuiltins x=some u)(h:Q u s)
  (hn:x≠"__name__":=by decide) (hd:(x==("__debug__":Str))=false:=by decide):wpAny (model X.prog X.w) X.A (eval (.Name x pos) X.env) Q E s:=by
 obtain⟨mb,h1,h2⟩:=I.mod.blt;exact Calls.Name_function_global I.ok.kind hg (Calls.loadGlobal_builtin (by rw[I.ok.glob];exact I.mod.glob.keeps I.bk) hm (by rw[I.ok.blt];exact h1.keeps I.bk) ((h2 x hn).trans hv) h) hd
theorem tF{x:Str}{v:V}{u:Value}{pos:Pos}(hg:Gl X x)(hm:X.mg x=some u)(r:RelV v u)(hd:(x==("__debug__":Str))=false:=by decide):PE X (.Name x pos) (tC v):=
 fun _ _ _ H _ I h=>jX I hg hm ⟨v,H,I,r,h⟩ hd
theorem jT{x:Str}{v:V}{u:Value}{pos:Pos}(hg:Gl X x)(hm:X.mg x=none)(hv:bootBuiltins x=some u)(r:RelV v u)(hn:x≠"__name__":=by decide)(hd:(x==("__debug__":Str))=false:=by decide):PE X (.Name x pos) (tC v):=
 fun _ _ _ H _ I h=>lJ I hg hm hv ⟨v,H,I,r,h⟩ hn hd
variable{a b:Expr}{ta tb:TE}{pos:Pos}
def PC(X:Cx)(op:CmpOp)(a b:Expr)(t:TE):Prop:=
 ∀(pins:List (Addr×Obj))(s:Shared)(σ:St)(H:Hp)(Q:VK),Inv X pins σ H s->t σ H Q->
  wpAny (model X.prog X.w) X.A (eval a X.env) (fun v s₁=>wpAny (model X.prog X.w) X.A (eval b X.env) (fun u s₂=>wpAny (model X.prog X.w) X.A (compareOp op v u) (EP X pins σ Q) X.xe s₂) X.xe s₁) X.xe s
def tB(t:TE):TT:=fun σ H Q=>t σ H fun x H1=>∃c,x=.bl c/\Q c H1
theorem Dw{op:CmpOp}{t:TE}(h:PC X op a b t)(h1:behindInMarks op b=false:=by first|exact nobehind _ (by decide) (by decide)|rfl):PT X (.Compare a [op] [b] pos) (tB t):=by intro pins s σ H Q I hw;refine wpAny_isTrue_Compare1 (thn (h pins s σ H _ I hw) fun v s1 h1=>thn h1 fun u s2 h2=>thn h2 fun c s3 hPz=>?_) h1;obtain⟨x,H1,I1,r1,q1⟩:=hPz;obtain⟨d,rfl,q⟩:=q1;cases r1;exact wpAny_truthy_bool ⟨H1,I1,q⟩
theorem dE{e:Expr}{t:TE}(h:PE X e t)(he:∀whole,isTrue e X.env whole=(do let v <-whole;standAt e.pos;holding [v] (truthy v)):=by intro _;rfl):PT X e (tB t):=by intro pins s σ H Q I hw;refine isTrue_plain (thn (h pins s σ H _ I hw) fun v s1 hPz=>?_) (he _);obtain⟨x,H1,I1,r1,q1⟩:=hPz;obtain⟨d,rfl,q⟩:=q1;cases r1;exact wpAny_truthy_bool ⟨H1,I1,q⟩
variable{tA tB':TT}{rest:List Expr}
def FP(t u:TT):TT:=fun σ H Q=>t σ H fun c H1=>if c=true then u σ H1 Q else Q false H1
def tOr(t u:TT):TT:=fun σ H Q=>t σ H fun c H1=>if c=true then Q true H1 else u σ H1 Q
def FH(t:TT):TT:=fun σ H Q=>t σ H fun c H1=>Q (!c) H1
theorem iQ(ha:PT X a tA):PW X (.BoolOp .And [a] pos) tA:=by
 intro wh pins s σ H Q I h;refine isTrue_and (thn (ha pins s σ H Q I h) fun c s1 e=>?_);cases c with
 |true=>exact isTrue_and_nil e
 |false=>exact e
theorem kP(ha:PT X a tA):PW X (.BoolOp .Or [a] pos) tA:=by
 intro wh pins s σ H Q I h;refine isTrue_or (thn (ha pins s σ H Q I h) fun c s1 e=>?_);cases c with
 |false=>exact isTrue_or_nil e
 |true=>exact e
theorem kQ(ha:PT X a tA)(hb:PW X (.BoolOp .And (b::rest) pos) tB'):PW X (.BoolOp .And (a::b::rest) pos) (FP tA tB'):=by
 intro wh pins s σ H Q I h;refine isTrue_and (thn (ha pins s σ H _ I h) fun c s1 hPz=>?_);obtain⟨H1,I1,q1⟩:=hPz;cases c with
 |true=>exact hb wh pins s1 σ H1 Q I1 q1
 |false=>exact⟨H1,I1,q1⟩
theorem mB(ha:PT X a tA)(hb:PW X (.BoolOp .Or (b::rest) pos) tB'):PW X (.BoolOp .Or (a::b::rest) pos) (tOr tA tB'):=by
 intro wh pins s σ H Q I h;refine isTrue_or (thn (ha pins s σ H _ I h) fun c s1 hPz=>?_);obtain⟨H1,I1,q1⟩:=hPz;cases c with
 |true=>exact⟨H1,I1,q1⟩
 |false=>exact hb wh pins s1 σ H1 Q I1 q1
theorem pY(ha:PT X a tA):PT X (.UnaryOp .Not a pos) (FH tA):=by intro pins s σ H Q I h;exact isTrue_not (ha pins s σ H (fun c H1=>Q (!c) H1) I h)
def EU(ta tb:TE):TE:=fun σ H Q=>ta σ H fun x H1=>∃c,x=.bl c/\if c=true then tb σ H1 Q else Q (.bl false) H1
def FG(ta tb:TE):TE:=fun σ H Q=>ta σ H fun x H1=>∃c,x=.bl c/\if c=true then Q (.bl true) H1 else tb σ H1 Q
def EK(ta:TE):TE:=fun σ H Q=>ta σ H fun x H1=>∃c,x=.bl c/\Q (.bl (!c)) H1
theorem kT{op}{t:TE}(h:PE X a t):PE X (.BoolOp op [a] pos) t:=fun pins s σ H Q I hw=>BoolOp_one (h pins s σ H Q I hw)
theorem nv(ha:PE X a ta)(hb:PE X (.BoolOp .And (b::rest) pos) tb):PE X (.BoolOp .And (a::b::rest) pos) (EU ta tb):=by
 intro pins s σ H Q I h;refine BoolOp_and (thn (ha pins s σ H _ I h) fun v s1 hPz=>?_);obtain⟨x,H1,I1,r1,q1⟩:=hPz;obtain⟨c,rfl,q1⟩:=q1;cases r1;refine wpAny_truthy_bool ?_;cases c with
 |true=>exact hb pins s1 σ H1 Q I1 q1
 |false=>exact⟨.bl false,H1,I1,rfl,q1⟩
theorem CQ(ha:PE X a ta)(hb:PE X (.BoolOp .Or (b::rest) pos) tb):PE X (.BoolOp .Or (a::b::rest) pos) (FG ta tb):=by
 intro pins s σ H Q I h;refine BoolOp_or (thn (ha pins s σ H _ I h) fun v s1 hPz=>?_);obtain⟨x,H1,I1,r1,q1⟩:=hPz;obtain⟨c,rfl,q1⟩:=q1;cases r1;refine wpAny_truthy_bool ?_;cases c with
 |false=>exact hb pins s1 σ H1 Q I1 q1
 |true=>exact⟨.bl true,H1,I1,rfl,q1⟩
theorem DB(ha:PE X a ta):PE X (.UnaryOp .Not a pos) (EK ta):=by intro pins s σ H Q I h;refine UnaryOp_ (thn (ha pins s σ H _ I h) fun v s1 hPz=>?_);obtain⟨x,H1,I1,r1,q1⟩:=hPz;obtain⟨c,rfl,q1⟩:=q1;cases r1;exact not_of (wpAny_truthy_bool ⟨.bl (!c),H1,I1,rfl,q1⟩)
end
def SqL(K:Frag)(H:Hp)(a:Addr)(xs:List V):Prop:=
 Rd H a (.lst xs)\/
  ∃(o:Obj)(its:Array Value)(n:Nat),K.lookup a=some o/\o.cls=.type "list"/\o.dict=none/\o.data=.seq its n/\its.size<=sizeLine/\Vals xs its.toList
def SqT(K:Frag)(H:Hp)(a:Addr)(xs:List V):Prop:=
 Rd H a (.tup xs)\/
  ∃(o:Obj)(its:Array Value)(n:Nat),K.lookup a=some o/\o.cls=.type "tuple"/\o.data=.seq its n/\its.size<=sizeLine/\Vals xs its.toList
noncomputable def Gb:Value->Option V
 | .none=>some .non
 | .bool b=>some (.bl b)
 | .int i _=>some (.int i)
 | .str x _=>some (.str x)
 | .bytes b _=>some (.byt b)
 | .float b _=>some (.flt b)
 | .ref a=>some (.ref a)
 | .type n=>some (.ty n)
 |_=>none
theorem RelV.abs{x:V}{u:Value}(r:RelV x u):Gb u=some x:=by
 cases x with
 |non=>cases r;rfl
 |bl _=>cases r;rfl
 |int _=>obtain⟨t,rfl⟩:=r;rfl
 |str _=>obtain⟨t,rfl⟩:=r;rfl
 |byt _=>obtain⟨t,rfl⟩:=r;rfl
 |flt _=>obtain⟨t,rfl⟩:=r;rfl
 |ref _=>cases r;rfl
 |ty _=>cases r;rfl
theorem RelV.inj{x y:V}{u:Value}(r:RelV x u)(q:RelV y u):x=y:=G2 (r.abs.symm.trans q.abs)
theorem Vals.inj:∀{xs ys:List V}{us:List Value},Vals xs us->Vals ys us->xs=ys
 |_,_,_,.nil,.nil=>rfl
 |_,_,_,.cons r t,.cons r' t'=>by rw[r.inj r',Vals.inj t t']
section
variable{X:Cx}{pins:List (Addr×Obj)}{σ:St}{H:Hp}{s:Shared}{a:Addr}{xs ys:List V}
theorem SqL.of{K:Frag}(h:H a=some (.lst xs)):SqL K H a xs:=.inl (.inl h)
theorem SqT.of{K:Frag}(h:H a=some (.tup xs)):SqT K H a xs:=.inl (.inl h)
theorem Inv.list(I:Inv X pins σ H s)(h:SqL X.K H a xs):∃its:List Value,Vals xs its/\PlainL s.heap a its.toArray/\xs.length<=sizeLine:=by
 rcases h with h|⟨o,its,n,hk,hc,hd,hs,hz,r⟩
 ·obtain⟨z,its,n,r,e⟩:=h.ok I.hok;exact⟨its,r,⟨_,n,e,rfl,rfl,rfl⟩,z⟩
 ·refine⟨its.toList,r,⟨o,n,I.kIn a o hk,hc,hd,by simpa using hs⟩,?_⟩;have e:=r.length;simp only[Hh]at e
  lia
theorem Inv.tuple(I:Inv X pins σ H s)(h:SqT X.K H a xs):∃its:List Value,Vals xs its/\IsTup s.heap a its.toArray/\xs.length<=sizeLine:=by
 rcases h with h|⟨o,its,n,hk,hc,hs,hz,r⟩
 ·obtain⟨z,its,r,p⟩:=h.ok I.hok;exact⟨its,r,p,z⟩
 ·refine⟨its.toList,r,⟨o,I.kIn a o hk,hc,n,by simpa using hs⟩,?_⟩;have e:=r.length;simp only[Hh]at e;omega
theorem Inv.list_inj(I:Inv X pins σ H s)(h:SqL X.K H a xs)(h':SqL X.K H a ys):xs=ys:=by
 obtain⟨its,r,⟨o,n,e,_,_,d⟩,_⟩:=I.list h;obtain⟨its',r',⟨o',n',e',_,_,d'⟩,_⟩:=I.list h';rw[e]at e';cases e';rw[d]at d';injection d' with d1 _;have:its=its':=by simpa using congrArg Array.toList d1
 subst this;exact r.inj r'
theorem Inv.tuple_inj(I:Inv X pins σ H s)(h:SqT X.K H a xs)(h':SqT X.K H a ys):xs=ys:=by
 obtain⟨its,r,⟨o,e,_,n,d⟩,_⟩:=I.tuple h;obtain⟨its',r',⟨o',e',_,n',d'⟩,_⟩:=I.tuple h';rw[e]at e';cases e';rw[d]at d';injection d' with d1 _;have:its=its':=by simpa using congrArg Array.toList d1
 subst this;exact r.inj r'
end
noncomputable abbrev Cx.wish(X:Cx)(E:Value->Shared->Prop):Cx:={X with xe:=E}
noncomputable abbrev Cx.nox(X:Cx):Cx:=X.wish fun _ _=>False
theorem Cx.Ok.wish{X:Cx}(ok:X.Ok)(E:Value->Shared->Prop):(X.wish E).Ok:=
 ⟨ok.mod,ok.kind,ok.glob,ok.blt,ok.above,ok.inj,ok.has,ok.cab,ok.hd,ok.frames,ok.stk,ok.exf,ok.bs,ok.bsz,ok.noex,ok.exfs,ok.funs,ok.frf⟩
theorem Cx.Ok.unwish{X:Cx}{E:Value->Shared->Prop}(ok:(X.wish E).Ok):X.Ok:=
 ⟨ok.mod,ok.kind,ok.glob,ok.blt,ok.above,ok.inj,ok.has,ok.cab,ok.hd,ok.frames,ok.stk,ok.exf,ok.bs,ok.bsz,ok.noex,ok.exfs,ok.funs,ok.frf⟩
section
variable{X:Cx}{pins:List (Addr×Obj)}{σ:St}{H:Hp}{s:Shared}{E:Value->Shared->Prop}
theorem Inv.wish(I:Inv X pins σ H s)(E:Value->Shared->Prop):Inv (X.wish E) pins σ H s:=⟨I.ok.wish E,I.os,I.bare,I.base,I.loc,I.cell,I.free,I.freeC,I.pin,I.hok,I.len⟩
theorem Inv.unwish(I:Inv (X.wish E) pins σ H s):Inv X pins σ H s:=⟨I.ok.unwish,I.os,I.bare,I.base,I.loc,I.cell,I.free,I.freeC,I.pin,I.hok,I.len⟩
theorem SP.unwish{D:Ends}{f:Flow}{s':Shared}(h:SP (X.wish E) pins D f s'):SP X pins D f s':=by
 cases f with
 |next=>obtain⟨σ',H',I,q⟩:=h;exact⟨σ',H',I.unwish,q⟩
 |brk=>obtain⟨σ',H',I,q⟩:=h;exact⟨σ',H',I.unwish,q⟩
 |cont=>obtain⟨σ',H',I,q⟩:=h;exact⟨σ',H',I.unwish,q⟩
 |ret u=>obtain⟨v,σ',H',I,r,q⟩:=h;exact⟨v,σ',H',I.unwish,r,q⟩
theorem PSs.nox{st:List Stmt}{t:TS}(h:PSs X.nox st t):PSs X st t:=fun pins s σ H D I hw=>Ha (h pins s σ H D (I.wish _) hw) (fun _ _ q=>q.unwish) fun _ _ z=>False.elim z
end
section
variable{X:Cx}{st:Stmt}{rest:List Stmt}{t u:TS}{e:Expr}{te:TE}{pos:Pos}
def EM:TS:=fun D σ H=>D.nx σ H
def FD(t u:TS):TS:=fun D σ H=>t {D with nx:=u D} σ H
theorem aG:PSs X [] EM:=fun _ _ σ H _ I h=>wpAny_execs_nil ⟨σ,H,I,h⟩
theorem ai(h1:PS X st t)(h2:PSs X rest u):PSs X (st::rest) (FD t u):=by
 intro pins s σ H D I h;refine wpAny_execs_cons (thn (h1 pins s σ H {D with nx:=u D} I h) fun f s1 q=>?_);cases f with
 |next=>obtain⟨σ',H',I',q⟩:=q;exact h2 pins s1 σ' H' D I' q
 |ret v=>exact q
 |brk=>exact q
 |cont=>exact q
theorem aj(h1:PS X st t):PSs X [st] t:=by
 intro pins s σ H D I h;refine wpAny_execs_cons (thn (h1 pins s σ H D I h) fun f s1 q=>?_);cases f with
 |next=>exact wpAny_execs_nil q
 |ret v=>exact q
 |brk=>exact q
 |cont=>exact q
theorem Inv.quiet{pins:List (Addr×Obj)}{σ:St}{H:Hp}{s:Shared}(I:Inv X pins σ H s):interactive X.env=false:=by simp[interactive,I.ok.kind]
def ER(te:TE):TS:=fun D σ H=>te σ H fun _ H1=>D.nx σ H1
theorem cO(he:PE X e te)(hs:swapsWith e none pos.line X.env=pure false:=by rfl):PS X (.Expr e pos) (ER te):=by intro pins s σ H D I h;exact wpAny_Expr_any (thn (he pins s σ H _ I h) fun v s1 hPz=>L2.ep3 hPz fun x H1 I1 r1 q1=>⟨σ,H1,I1,q1⟩) I.quiet hs
def FF(te:TE):TS:=fun D σ H=>te σ H D.rt
theorem aC(he:PE X e te):PS X (.Return (some e) pos) (FF te):=by intro pins s σ H D I h;exact wpAny_Return_some (thn (he pins s σ H _ I h) fun v s1 hPz=>L2.ep3 hPz fun x H1 I1 r1 q1=>⟨x,σ,H1,I1,r1,q1⟩)
def FJ(c:TT)(t u:TS):TS:=fun D σ H=>c σ H fun b H1=>if b=true then t D σ H1 else u D σ H1
theorem aT{c:Expr}{a b:List Stmt}{tc:TT}(hc:PT X c tc)(ha:PSs X a t)(hb:PSs X b u):PS X (.If c a b pos) (FJ tc t u):=by
 intro pins s σ H D I h;refine wpAny_If (thn (hc pins s σ H _ I h) fun d s1 hPz=>?_);obtain⟨H1,I1,q1⟩:=hPz;cases d with
 |true=>exact ha pins s1 σ H1 D I1 q1
 |false=>exact hb pins s1 σ H1 D I1 q1
end
noncomputable abbrev TG:=V->St->Hp->(St->Hp->Prop)->Prop
noncomputable abbrev TGs:=List V->St->Hp->(St->Hp->Prop)->Prop
def PG(X:Cx)(target:Expr)(t:TG):Prop:=
 ∀(pins:List (Addr×Obj))(s:Shared)(σ:St)(H:Hp)(v:V)(u:Value)(Q:St->Hp->Prop),Inv X pins σ H s->RelV v u->t v σ H Q->
  wpAny (model X.prog X.w) X.A (assign target X.env u) (fun _ s'=>∃σ' H',Inv X pins σ' H' s'/\Q σ' H') X.xe s
def PGs(X:Cx)(ts:List Expr)(t:TGs):Prop:=
 ∀(pins:List (Addr×Obj))(s:Shared)(σ:St)(H:Hp)(vs:List V)(us:List Value)(Q:St->Hp->Prop),Inv X pins σ H s->Vals vs us->t vs σ H Q->
  wpAny (model X.prog X.w) X.A (assignInOrder ((assignEach ts X.env).map (·.2)) us) (fun _ s'=>∃σ' H',Inv X pins σ' H' s'/\Q σ' H') X.xe s
noncomputable abbrev Ew:=V->V->V->Hp->(Hp->Prop)->Prop
def Fv(X:Cx)(t:Ew):Prop:=
 ∀(pins:List (Addr×Obj))(s:Shared)(σ:St)(H:Hp)(o i v:V)(ov iv u:Value)(Q:Hp->Prop),Inv X pins σ H s->RelV o ov->RelV i iv->RelV v u->t o i v H Q->
  wpAny (model X.prog X.w) X.A (setItem ov iv u) (fun _ s'=>∃H',Inv X pins σ H' s'/\Q H') X.xe s
section
variable{X:Cx}{pos:Pos}
def kH(i:Nat):TG:=fun v σ H Q=>Q (σ.set i (some v)) H
theorem aM{i:Nat}{x:Str}(hN:X.N.Nodup)(hi:X.N[i]?=some x)(hx:Loc X.env.scope x)(hf:X.fn x=true\/X.env.scope.names.lookup x=some .local:=by first|exact .inl rfl|exact .inr rfl|assumption):PG X (.Name x pos) (kH i):=by intro pins s σ H v u Q I r h;exact wpAny_assign_Name (pI I hN hi hx r (fun s' I'=>⟨_,H,I',h⟩) hf)
def D7:TGs:=fun vs σ H Q=>vs=[]/\Q σ H
def vi(t:TG)(u:TGs):TGs:=fun vs σ H Q=>∃v r,vs=v::r/\t v σ H fun σ' H'=>u r σ' H' Q
theorem jS:PGs X [] D7:=by intro pins s σ H vs us Q I r h;obtain⟨e,h⟩:=h;subst e;cases r;exact assignInOrder_nil ⟨σ,H,I,h⟩
theorem cV{e:Expr}{es:List Expr}{t:TG}{u:TGs}(h1:PG X e t)(h2:PGs X es u)
  (hs:(assignEach (e::es) X.env).map (·.2)=assign e X.env::(assignEach es X.env).map (·.2):=by rfl):PGs X (e::es) (vi t u):=by
 intro pins s σ H vs us Q I r h;obtain⟨v,vr,e1,h⟩:=h;subst e1;cases r with
 |cons r rr=>rw[hs];refine assignInOrder_cons (thn (h1 pins s σ H _ _ _ I r h) fun _ s1 hPz=>?_);obtain⟨σ1,H1,I1,q1⟩:=hPz;exact h2 pins s1 σ1 H1 _ _ Q I1 rr q1
def Cf(K:Frag)(n:Nat)(t:TGs):TG:=fun v σ H Q=>∃a xs,v=.ref a/\SqT K H a xs/\xs.length=n/\t xs σ H Q
theorem nq{es:List Expr}{k:Nat}{t:TGs}{n:Nat}(hc:X.calm=true)(h:PGs X es t)
  (hn:(assignEach es X.env).length=n:=by rfl) (hst:(assignEach es X.env).findIdx? (·.1)=none:=by rfl):PG X (.Tuple es k pos) (Cf X.K n t):=by
 intro pins s σ H v u Q I r hw;obtain⟨a,xs,e1,hq,hl,hw⟩:=hw;subst e1;cases r;obtain⟨its,rv,ht,hz⟩:=I.tuple hq;refine assign_Tuple_tuple (I.ok.hd hc) ht (by simp[hn,<-hl,rv.length]) hst fun h' hx=>?_;have I1:Inv X pins σ H {s with heap:=h'}:=I.kept (t':=s.toks) fun b o e=>hx b o (G5 (GG e)) e;exact h pins _ σ H xs _ Q I1 (by simpa using rv) hw
def F9(to ti:TE)(t:Ew):TG:=fun v σ H Q=>to σ H fun o H1=>ti σ H1 fun i H2=>t o i v H2 fun H3=>Q σ H3
theorem zL{o i:Expr}{to ti:TE}{t:Ew}(ho:PE X o to)(hi:PE X i ti)(hs:Fv X t)
  (ha:∀v,assign (.Subscript o i pos) X.env v=(do
   let ov <-holding [v] (eval o X.env);let iv <-holding [v,ov] (eval i X.env)
   standAt pos
   holding [v,ov,iv] (setItem ov iv v)
   release [v,ov,iv] []):=by intro _;rfl):PG X (.Subscript o i pos) (F9 to ti t):=by
 intro pins s σ H v u Q I r h;rw[ha];refine Gg (Hr (thn (ho pins s σ H _ I h) fun ov s1 hPz=>?_));obtain⟨x,H1,I1,r1,q1⟩:=hPz;refine Gg (Hr (thn (hi pins s1 σ H1 _ I1 q1) fun iv s2 hPz=>?_));obtain⟨y,H2,I2,r2,q2⟩:=hPz;refine Gg (wpAny_standAt (Gg (Hr (thn (hs pins s2 σ H2 x y v ov iv u _ I2 r1 r2 r q2) fun _ s3 hPz=>?_))));obtain⟨H3,I3,q3⟩:=hPz;exact wpAny_release ⟨σ,H3,I3,q3⟩
def Dn(te:TE)(g:TG):TS:=fun D σ H=>te σ H fun x H1=>g x σ H1 D.nx
theorem vS{tg e:Expr}{te:TE}{g:TG}(he:PE X e te)(hg:PG X tg g)(hs:swapsWithSole [tg] e pos.line X.env=pure false:=by rfl)(hw:swappedStores [tg] e X.env=pure none:=by rfl)
  (h1:(assignEach [tg] X.env).map (·.2)=[assign tg X.env]:=by rfl):PS X (.Assign [tg] e pos) (Dn te g):=by
 intro pins s σ H D I h;refine wpAny_Assign_stores (thn (he pins s σ H _ I h) fun v s1 hPz=>?_) hs hw;obtain⟨x,H1,I1,r1,q1⟩:=hPz;rw[h1];exact thn (hg pins s1 σ H1 x v _ I1 r1 q1) fun _ s2 q=>q
theorem aw{i:Nat}{x:Str}{e:Expr}{te:TE}{pos':Pos}(hN:X.N.Nodup)(hi:X.N[i]?=some x)(hx:Loc X.env.scope x)(he:PE X e te)(hs:swapsWith e (some (.Name x pos')) pos.line X.env=pure false:=by rfl)(hf:X.fn x=true\/X.env.scope.names.lookup x=some .local:=by first|exact .inl rfl|exact .inr rfl|assumption):
  PS X (.Assign [.Name x pos'] e pos) (Dn te (kH i)):=by
 intro pins s σ H D I h;refine wpAny_Assign_Name (thn (he pins s σ H _ I h) fun v s1 hPz=>?_) hs;obtain⟨y,H1,I1,r1,q1⟩:=hPz;exact pI I1 hN hi hx r1 (fun s2 I2=>⟨_,H1,I2,q1⟩) hf
def Dh(c:TT)(tb:TS):TS:=fun D σ H=>∃W:Nat->St->Hp->Prop,(∃m,W m σ H)/\∀m σ H,W m σ H->
 c σ H fun b H1=>if b=true then ∃N:St->Hp->Prop,(∀σ' H',N σ' H'->∃m',m'<m/\W m' σ' H')/\tb {D with nx:=N,ct:=N,bk:=D.nx} σ H1 else D.nx σ H1
theorem uI{c:Expr}{body:List Stmt}{tc:TT}{tb:TS}(hp:PassesOwn (model X.prog X.w) X.A X.env X.xe)(hc:PT X c tc)(hb:PSs X body tb):PS X (.While c body [] pos) (Dh tc tb):=by
 intro pins s σ H D I h;obtain⟨W,⟨m0,w0⟩,turn⟩:=h;refine wpAny_While (codeAny_whileLoop (fun n s'=>∃σ' H',Inv X pins σ' H' s'/\W n σ' H') ?_ m0 ⟨σ,H,I,w0⟩);rintro n s1 ⟨σ1,H1,I1,w1⟩;refine wpAny_passesOwn hp (thn (hc pins s1 σ1 H1 _ I1 (turn n σ1 H1 w1)) fun b s2 hPz=>?_);obtain⟨H2,I2,q2⟩:=hPz;cases b with
 |true=>
  obtain⟨N,hN,q2⟩:=q2;rw[Gz rfl];refine wpAny_passesOwn hp (thn (hb pins s2 σ1 H2 _ I2 q2) fun f s3 q3=>?_);cases f with
  |next=>obtain⟨σ3,H3,I3,n3⟩:=q3;obtain⟨m',hm,w3⟩:=hN σ3 H3 n3;exact⟨m',hm,σ3,H3,I3,w3⟩
  |cont=>obtain⟨σ3,H3,I3,n3⟩:=q3;obtain⟨m',hm,w3⟩:=hN σ3 H3 n3;exact⟨m',hm,σ3,H3,I3,w3⟩
  |brk=>exact q3
  |ret v=>exact q3
 |false=>rw[Gu GJ];exact wpAny_execs_nil ⟨σ1,H2,I2,q2⟩
end
structure It where
 go:Nat->Hp->Prop
 yld:Nat->Hp->V->Hp->Prop
 stop:Nat->Hp->Prop
def lS(X:Cx)(pins:List (Addr×Obj))(H:Hp)(b:Addr):Prop:=
 H b=none/\b≠X.env.locals/\b∉X.fs/\(b∈X.ex\/X.s₀.heap.objs.size<=b)/\(∀x c,X.env.cells.lookup x=some c->c≠b)/\∀p∈X.pn++pins,p.1≠b
theorem Inv.fpOk{X:Cx}{pins:List (Addr×Obj)}{σ:St}{H H':Hp}{s:Shared}{b:Addr}(I:Inv X pins σ H s)(hb:s.heap.objs.size<=b)(hn:H' b=none):lS X pins H' b:=by
 refine⟨hn,Nat.ne_of_gt (Gx I.lt hb),I.nofs hb,.inr (G0 I.sz hb),fun x c e z=>?_,fun p hp z=>?_⟩
 ·obtain⟨v,q⟩:=I.cell x c e;exact absurd (Gx q.lt (by rw[z];exact hb)) (HW _)
 ·exact absurd (Gx (GG (I.pin p hp).1) (by rw[z];exact hb)) (HW _)
structure Turn(P:Program)(w:World)(K:Frag)(tg:Expr)(J:It)(fp:List Addr)(it:Addr)(tn:Nat->Heap->Prop):Prop where
 mem:it∈fp
 obj:∀i h,tn i h->∀b∈fp,∃o,h.get? b=some o/\∀v,o.data≠ .cell v
 keep:∀i h h',tn i h->(∀b∈fp,∀o,h.get? b=some o->h'.get? b=some o)->tn i h'
 item:∀(X:Cx),X.prog=P->X.w=w->X.K=K->X.calm=true->∀(i:Nat)(pins:List (Addr×Obj))(s:Shared)(σ:St)(H:Hp)(E:Value->Shared->Prop),Inv X pins σ H s->(∀b∈fp,lS X pins H b)->tn i s.heap->J.go i H->
  wpAny (model P w) X.A (pyNext (.ref it)) (fun r s1=>∃u,r=some u/\
   wpAny (model P w) X.A (letOwnedTupleGo tg (.ref it) u) (fun _ s2=>∃x H',Inv X pins σ H' s2/\RelV x u/\J.yld i H x H'/\tn (i+1) s2.heap/\∀b∈fp,H' b=none) E s1) E s
 done:∀(X:Cx),X.prog=P->X.w=w->X.K=K->X.calm=true->∀(i:Nat)(pins:List (Addr×Obj))(s:Shared)(σ:St)(H:Hp)(E:Value->Shared->Prop),Inv X pins σ H s->(∀b∈fp,lS X pins H b)->tn i s.heap->J.stop i H->
  wpAny (model P w) X.A (pyNext (.ref it)) (fun r s1=>r=none/\Inv X pins σ H s1) E s
 self:∀(A:Around)(i:Nat)(s:Shared)(Q:Value->Shared->Prop)(E:Value->Shared->Prop),tn i s.heap->Q (.ref it) s->wpAny (model P w) A (pyIter (.ref it)) Q E s
noncomputable abbrev TI:=St->Hp->(It->Hp->Prop)->Prop
def PIE(X:Cx)(pins:List (Addr×Obj))(σ:St)(tg:Expr)(R:It->Hp->Prop)(itv:Value)(s2:Shared):Prop:=
 ∃(it:Addr)(fp:List Addr)(tn:Nat->Heap->Prop)(J:It)(H':Hp),itv=.ref it/\Inv X pins σ H' s2/\Turn X.prog X.w X.K tg J fp it tn/\tn 0 s2.heap/\(∀b∈fp,lS X pins H' b)/\R J H'
def PI(X:Cx)(tg iter:Expr)(wi:TI):Prop:=
 ∀(pins:List (Addr×Obj))(s:Shared)(σ:St)(H:Hp)(R:It->Hp->Prop),Inv X pins σ H s->wi σ H R->
  wpAny (model X.prog X.w) X.A (eval iter X.env) (fun v s1=>wpAny (model X.prog X.w) X.A (pyIter v) (PIE X pins σ tg R) X.xe s1) X.xe s
theorem xA {M : Model} {A : Around} {E : Value → Shared → Prop} {s : Shared} {tg : Expr} {it : Addr} {u : Value} {o : Obj} {n : String} {vs : Array Value} {Q : Unit → Shared → Prop} (ho : s.heap.get? it = some o) (hc : o.cls = .type n) (hd : o.data = .fields vs)
    (hn : ["enumerate", "zip", "dict_itemiterator", "dict_reverseitemiterator", "odict_iterator", "itertools.zip_longest", "itertools.pairwise"].contains n = false) (hQ : Q () s) : wpAny M A (letOwnedTupleGo tg (.ref it) u) Q E s := by
  unfold letOwnedTupleGo
  cases tg <;> first
    | exact wpAny_pure hQ
    | (cases u <;> first
        | exact wpAny_pure hQ
        | (refine wpAny_bind (wpAny_load ho ?_)
           rw [hc, hd]
           show wpAny M A (if (["enumerate", "zip", "dict_itemiterator", "dict_reverseitemiterator", "odict_iterator", "itertools.zip_longest", "itertools.pairwise"].contains n && vs[0]? == some (rawInt _)) = true then _ else _) Q E s
           rw [if_neg (by intro h; rw [hn, Bool.false_and] at h; cases h)]
           exact wpAny_pure hQ))
noncomputable def Itl(K:Frag)(a:Addr):It:=
 ⟨fun i H=>∃xs x,SqL K H a xs/\xs[i]?=some x,fun i H x H'=>H'=H/\∀xs,SqL K H a xs->xs[i]?=some x,fun i H=>∃xs,SqL K H a xs/\xs.length<=i⟩
noncomputable def Itt(K:Frag)(a:Addr):It:=
 ⟨fun i H=>∃xs x,SqT K H a xs/\xs[i]?=some x,fun i H x H'=>H'=H/\∀xs,SqT K H a xs->xs[i]?=some x,fun i H=>∃xs,SqT K H a xs/\xs.length<=i⟩
noncomputable def Itr(lo:Int)(n:Nat):It:=⟨fun i _=>i<n,fun i H x H'=>H'=H/\x=.int (lo+i),fun i _=>n<=i⟩
theorem x3{P:Program}{w:World}{K:Frag}{tg:Expr}(a it:Addr):Turn P w K tg (Itl K a) [it] it (fun i h=>h.IsListIter it a i) where
 mem:=by simp
 obj:=fun i h st b hb=>by
  have e:b=it:=by simpa using hb
  subst e;obtain⟨o,e,c,d⟩:=st;exact⟨o,e,fun v z=>by rw[d]at z;cases z⟩
 keep:=fun i h h' st k=>st.at fun o e=>k it (by simp) o e
 item:=by intro X hP hw hK hc i pins s σ H E I hf st hg;subst hP hw hK;obtain⟨xs,x,hq,hx⟩:=hg;obtain⟨its,rv,p,hz⟩:=I.list hq;obtain⟨u,hu,ru⟩:=rv.get hx;obtain⟨f0,f1,f2,f3,f4,f5⟩:=hf it (by simp);refine wpAny_pyNext_list_item st p.isList (x:=u) (by simpa using hu) fun h' st' sb=>?_;have I1:Inv X pins σ H {s with heap:=h'}:=I.turned (t':=s.toks) (fun b o hb e=>(sb.2 b hb).trans e) f0 f1 f3 f4 f5;obtain⟨o,e,c,d⟩:=id st';exact⟨u,rfl,xA (s:={s with heap:=h'}) e c d (by decide) ⟨x,H,I1,ru,⟨rfl,fun ys hy=>by rw[I.list_inj hy hq];exact hx⟩,st',fun b hb=>(hf b hb).1⟩⟩
 done:=by intro X hP hw hK hc i pins s σ H E I hf st hg;subst hP hw hK;obtain⟨xs,hq,hx⟩:=hg;obtain⟨its,rv,p,hz⟩:=I.list hq;obtain⟨f0,f1,f2,f3,f4,f5⟩:=hf it (by simp);have hl:=rv.length;exact wpAny_pyNext_list_end (I.ok.hd hc) st p.isList (by simp;lia) fun h' eb=>⟨rfl,I.turned (t':=s.toks) (fun b o hb e=>eb b o hb e) f0 f1 f3 f4 f5⟩
 self:=fun _ _ _ _ _ st h=>wpAny_pyIter_listiter st h
theorem vG{P:Program}{w:World}{K:Frag}{tg:Expr}(a it:Addr):Turn P w K tg (Itt K a) [it] it (fun i h=>h.IsTupleIter it a i) where
 mem:=by simp
 obj:=fun i h st b hb=>by
  have e:b=it:=by simpa using hb
  subst e;obtain⟨o,e,c,d⟩:=st;exact⟨o,e,fun v z=>by rw[d]at z;cases z⟩
 keep:=fun i h h' st k=>st.at fun o e=>k it (by simp) o e
 item:=by intro X hP hw hK hc i pins s σ H E I hf st hg;subst hP hw hK;obtain⟨xs,x,hq,hx⟩:=hg;obtain⟨its,rv,p,hz⟩:=I.tuple hq;obtain⟨u,hu,ru⟩:=rv.get hx;obtain⟨f0,f1,f2,f3,f4,f5⟩:=hf it (by simp);refine wpAny_pyNext_tuple_item st (show s.heap.IsTuple a its.toArray from p) (x:=u) (by simpa using hu) fun h' st' sb=>?_;have I1:Inv X pins σ H {s with heap:=h'}:=I.turned (t':=s.toks) (fun b o hb e=>(sb.2 b hb).trans e) f0 f1 f3 f4 f5;obtain⟨o,e,c,d⟩:=id st';exact⟨u,rfl,xA (s:={s with heap:=h'}) e c d (by decide) ⟨x,H,I1,ru,⟨rfl,fun ys hy=>by rw[I.tuple_inj hy hq];exact hx⟩,st',fun b hb=>(hf b hb).1⟩⟩
 done:=by intro X hP hw hK hc i pins s σ H E I hf st hg;subst hP hw hK;obtain⟨xs,hq,hx⟩:=hg;obtain⟨its,rv,p,hz⟩:=I.tuple hq;obtain⟨f0,f1,f2,f3,f4,f5⟩:=hf it (by simp);have hl:=rv.length;exact wpAny_pyNext_tuple_end (I.ok.hd hc) st (show s.heap.IsTuple a its.toArray from p) (by simp;omega) fun h' eb=>⟨rfl,I.turned (t':=s.toks) (fun b o hb e=>eb b o hb e) f0 f1 f3 f4 f5⟩
 self:=fun _ _ _ _ _ st h=>wpAny_pyIter_tupleiter st h
theorem vH{P:Program}{w:World}{K:Frag}{tg:Expr}(it:Addr)(lo:Int)(n:Nat):Turn P w K tg (Itr lo n) [it] it (fun i h=>IsRangeIter h it (lo+(i:Nat)*1) ((n:Int)-(i:Nat)) 1) where
 mem:=by simp
 obj:=fun i h st b hb=>by
  have e:b=it:=by simpa using hb
  subst e
  exact⟨_,st,fun v z=>by
   have z':Data.fields _=Data.cell v:=z
   cases z'⟩
 keep:=fun i h h' st k=>k it (by simp) _ st
 item:=by intro X hP hw hK hc i pins s σ H E I hf st hg;subst hP hw hK;obtain⟨f0,f1,f2,f3,f4,f5⟩:=hf it (by simp);have W:=Walks.range (prog:=X.prog) (w:=X.w) (I.ok.hd hc) it lo 1 n;refine W.item i s _ _ hg st fun v h' tk hv st' kk=>?_;obtain⟨t,rfl⟩:=hv;have I1:Inv X pins σ H {s with heap:=h',toks:=tk}:=I.turned (fun b o hb e=>kk b o (by simpa using hb) e) f0 f1 f3 f4 f5;refine⟨_,rfl,xA (s:={s with heap:=h',toks:=tk}) (n:="range_iterator") st' rfl rfl (by decide) ⟨.int (lo+i),H,I1,⟨t,?_⟩,⟨rfl,rfl⟩,st',fun b hb=>(hf b hb).1⟩⟩;rw[Int.mul_one]
 done:=by intro X hP hw hK hc i pins s σ H E I hf st hg;subst hP hw hK;obtain⟨f0,f1,f2,f3,f4,f5⟩:=hf it (by simp);exact wpAny_pyNext_range_end (I.ok.hd hc) st (by have:n<=i:=hg;lia) fun h' eb=>⟨rfl,I.turned (t':=s.toks) (fun b o hb e=>eb b o hb e) f0 f1 f3 f4 f5⟩
 self:=fun _ _ _ _ _ st h=>wpAny_pyIter_rangeiter st h
section
variable{X:Cx}{tg:Expr}
def CW(K:Frag)(tl:TE):TI:=fun σ H R=>tl σ H fun x H1=>∃a,x=.ref a/\(∃xs,SqL K H1 a xs)/\R (Itl K a) H1
def Fl(K:Frag)(tl:TE):TI:=fun σ H R=>tl σ H fun x H1=>∃a,x=.ref a/\(∃xs,SqT K H1 a xs)/\R (Itt K a) H1
theorem dJ{l:Expr}{tl:TE}(hl:PE X l tl):PI X tg l (CW X.K tl):=by
 intro pins s σ H R I h;refine thn (hl pins s σ H _ I h) fun v s1 hPz=>?_;obtain⟨x,H1,I1,r1,q1⟩:=hPz;obtain⟨a,e,⟨xs,hq⟩,q⟩:=q1;subst e;cases r1;obtain⟨its,rv,p,hz⟩:=I1.list hq;refine wpAny_pyIter_list p.isList ?_;refine⟨s1.heap.objs.size,[s1.heap.objs.size],_,_,H1,rfl,I1.kept (t':=s1.toks) fun b o e=>Gi _ e,x3 a _,⟨_,GO _ rfl,rfl,rfl⟩,fun b hb=>?_,q⟩;have e:b=s1.heap.objs.size:=by simpa using hb
 subst e;exact I1.fpOk (Gr _) (I1.hok.fresh (Gr _))
theorem eF{l:Expr}{tl:TE}(hl:PE X l tl):PI X tg l (Fl X.K tl):=by
 intro pins s σ H R I h;refine thn (hl pins s σ H _ I h) fun v s1 hPz=>?_;obtain⟨x,H1,I1,r1,q1⟩:=hPz;obtain⟨a,e,⟨xs,hq⟩,q⟩:=q1;subst e;cases r1;obtain⟨its,rv,p,hz⟩:=I1.tuple hq;refine wpAny_pyIter_tuple (show s1.heap.IsTuple a its.toArray from p) ?_;refine⟨s1.heap.objs.size,[s1.heap.objs.size],_,_,H1,rfl,I1.kept (t':=s1.toks) fun b o e=>Gi _ e,vG a _,⟨_,GO _ rfl,rfl,rfl⟩,fun b hb=>?_,q⟩;have e:b=s1.heap.objs.size:=by simpa using hb
 subst e;exact I1.fpOk (Gr _) (I1.hok.fresh (Gr _))
theorem zF{pins:List (Addr×Obj)}{σ:St}{H:Hp}{s:Shared}{R:It->Hp->Prop}{E:Value->Shared->Prop}{lo hi:Int}{t u v:Tok}{tk:Nat}(I:Inv X pins σ H s)(h1: -(2^62)<=lo)(h2:lo<2^62)(h3: -(2^62)<=hi)(h4:hi<2^62)
  (q:R (Itr lo (hi-lo).toNat) H):wpAny (model X.prog X.w) X.A (pyIter (.ref s.heap.objs.size)) (PIE X pins σ tg R) E {s with heap:=s.heap.push {cls:=.type "range",data:=.fields #[.int lo t,.int hi u,.int 1 v]},toks:=tk}:=by
 refine wpAny_pyIter_range (IsRange.new ..) (small_one h1 h2 h3 h4) ?_;have I1:Inv X pins σ H {s with heap:=s.heap.push {cls:=.type "range",data:=.fields #[.int lo t,.int hi u,.int 1 v]},toks:=tk}:=I.kept fun b o e=>Gi _ e
 refine⟨(s.heap.push {cls:=.type "range",data:=.fields #[.int lo t,.int hi u,.int 1 v]}).objs.size,[(s.heap.push {cls:=.type "range",data:=.fields #[.int lo t,.int hi u,.int 1 v]}).objs.size],_,_,H,rfl,
  I1.kept (t':=tk) fun b o e=>Gi _ e,vH _ lo (hi-lo).toNat,?_,fun b hb=>?_,q⟩
 ·have e1:lo+((0:Nat):Int)*1=lo:=by simp
  have e2:(((hi-lo).toNat:Nat):Int)-((0:Nat):Int)=Builtin.Range.rangeSize lo hi 1:=by rw[rangeSize_one];split<;>lia
  show IsRangeIter _ _ (lo+((0:Nat):Int)*1) ((((hi-lo).toNat:Nat):Int)-((0:Nat):Int)) 1;rw[e1,e2];exact GO _ rfl
 ·have e:b=(s.heap.push {cls:=.type "range",data:=.fields #[.int lo t,.int hi u,.int 1 v]}).objs.size:=by simpa using hb
  subst e;exact I1.fpOk (Gr _) (I1.hok.fresh (Gr _))
def Fm(ta:TA):TI:=fun σ H R=>ta σ H fun vs H1=>∃j:Int,vs=[.int j]/\ -(2^62)<=j/\j<2^62/\R (Itr 0 j.toNat) H1
theorem bN{a:Expr}{ta:TA}{p pos:Pos}(hg:Gl X "range")(hm:X.mg "range"=none)(ha:PA X [a] ta)(hs:starEach [a] X.env=[(false,eval a X.env)]:=by rfl):PI X tg (.Call (.Name "range" p) [a] [] pos) (Fm ta):=by
 intro pins s σ H R I h;refine Call_ (lJ I hg hm boot_range (PyProof.Rows.callWith_type1 (thn (ha pos pins s σ H _ I h) fun us s1 hPz=>?_) hs rfl));obtain⟨vs,H1,I1,r1,q1⟩:=hPz;obtain⟨j,e,q1,q2,q⟩:=q1;subst e;cases r1 with
 |cons r rr=>cases rr;obtain⟨t,rfl⟩:=r;exact call_range_1 (zF I1 (by lia) (by lia) q1 q2 (by simpa using q))
def FK(wi:TI)(g:TG)(tb:TS):TS:=fun D σ H=>wi σ H fun J H1=>∃W:Nat->Nat->St->Hp->Prop,(∃m,W 0 m σ H1)/\∀i m σ H,W i m σ H->
 (J.stop i H/\D.nx σ H)\/(J.go i H/\∃N:St->Hp->Prop,(∀σ' H',N σ' H'->∃m',m'<m/\W (i+1) m' σ' H')/\∀x H',J.yld i H x H'->g x σ H' fun σ2 H2=>tb {D with nx:=N,ct:=N,bk:=D.nx} σ2 H2)
noncomputable def jF(fp:List Addr)(h:Heap):List (Addr×Obj):=fp.filterMap fun b=>(h.get? b).map fun o=>(b,o)
theorem gW{fp:List Addr}{h:Heap}{b:Addr}{o:Obj}(hb:b∈fp)(e:h.get? b=some o):(b,o)∈jF fp h:=List.mem_filterMap.mpr ⟨b,hb,by rw[e];rfl⟩
theorem yt{fp:List Addr}{h:Heap}{p:Addr×Obj}(hp:p∈jF fp h):p.1∈fp/\h.get? p.1=some p.2:=by
 obtain⟨b,hb,e⟩:=List.mem_filterMap.mp hp;cases q:h.get? b with
 |none=>rw[q]at e;cases e
 |some o=>rw[q]at e;have e':(b,o)=p:=G2 e;subst e';exact⟨hb,q⟩
theorem Inv.pinned{pins:List (Addr×Obj)}{σ:St}{H:Hp}{s:Shared}{fp:List Addr}(I:Inv X pins σ H s)(hf:∀b∈fp,lS X pins H b)(ho:∀b∈fp,∃o,s.heap.get? b=some o/\∀v,o.data≠ .cell v):Inv X (pins++jF fp s.heap) σ H s:=
 I.pins_of fun p hp=>(Gv.mp hp).elim (fun z=>I.pin p (GQ _ z)) fun z=>by obtain⟨hb,e⟩:=yt z;obtain⟨f0,f1,f2,_⟩:=hf p.1 hb;obtain⟨o,e',d⟩:=ho p.1 hb;rw[e]at e';cases e';exact⟨e,f0,f1,f2,d⟩
theorem Inv.unpinned{pins pl:List (Addr×Obj)}{σ:St}{H:Hp}{s:Shared}(I:Inv X (pins++pl) σ H s):Inv X pins σ H s:=I.pins_of fun p hp=>I.pin p (GQ _ (GI _ hp))
theorem cq{iter:Expr}{body:List Stmt}{wi:TI}{g:TG}{tb:TS}{pos:Pos}(hp:PassesOwn (model X.prog X.w) X.A X.env X.xe)(hc:X.calm=true)(hi:PI X tg iter wi)(hg:PG X tg g)(hb:PSs X body tb)
  (hs:∀x,foldedSetIterable iter X.env x=pure x:=by intro _;rfl):PS X (.For tg iter body [] pos) (FK wi g tb):=by
 intro pins s σ H D I h;refine wpAny_For (thn (hi pins s σ H _ I h) fun v s1 h1=>thn h1 fun itv s2 h2=>?_) hs;obtain⟨it,fp,tn,J,H2,e,I2,T,st2,f2,W,⟨m0,w0⟩,turn⟩:=h2;subst e;have stat:∀{H':Hp},(∀b∈fp,H' b=none)->∀b∈fp,lS X pins H' b:=fun hn b hb=>⟨hn b hb,(f2 b hb).2⟩;refine codeAny_forLoop_any (fun n s'=>∃i σ' H',Inv X pins σ' H' s'/\tn i s'.heap/\(∀b∈fp,H' b=none)/\W i n σ' H') ?_ m0 ⟨0,σ,H2,I2,st2,fun b hb=>(f2 b hb).1,w0⟩;rintro n s3 ⟨i,σ3,H3,I3,st3,fr3,w3⟩;rcases turn i n σ3 H3 w3 with⟨stop,qn⟩|⟨go,N,hN,step⟩
 ·refine wpAny_passesOwn hp (thn (T.done X rfl rfl rfl hc i pins s3 σ3 H3 X.xe I3 (stat fr3) st3 stop) fun r s4 ⟨hr,I4⟩=>?_);subst hr;exact wpAny_execs_nil ⟨σ3,H3,I4,qn⟩
 ·refine wpAny_passesOwn hp (thn (T.item X rfl rfl rfl hc i pins s3 σ3 H3 X.xe I3 (stat fr3) st3 go) fun r s4 hPz=>?_);obtain⟨u,hr,h4⟩:=hPz;subst hr;refine wpAny_passesOwn hp (thn h4 fun _ s5 hPz=>?_);obtain⟨x,H5,I5,r5,y5,st5,fr5⟩:=hPz;have I5':=I5.pinned (stat fr5) (T.obj _ _ st5);refine wpAny_passesOwn hp (thn (hg _ s5 σ3 H5 x u _ I5' r5 (step x H5 y5)) fun _ s6 hPz=>?_);obtain⟨σ6,H6,I6,q6⟩:=hPz;refine wpAny_passesOwn hp (thn (hb _ s6 σ6 H6 _ I6 q6) fun f s7 q7=>?_);have again:∀{σ7:St}{H7:Hp},Inv X (pins++jF fp s5.heap) σ7 H7 s7->N σ7 H7->∃m,m<n/\∃i σ' H',Inv X pins σ' H' s7/\tn i s7.heap/\(∀b∈fp,H' b=none)/\W i m σ' H':=fun {σ7 H7} I7 n7=>by
   obtain⟨m',hm,w7⟩:=hN σ7 H7 n7;refine⟨m',hm,i+1,σ7,H7,I7.unpinned,T.keep _ _ _ st5 fun b hb o e=>(I7.pin (b,o) (GQ _ (GQ _ (gW hb e)))).1,fun b hb=>?_,w7⟩;obtain⟨o,e,d⟩:=T.obj _ _ st5 b hb;exact(I7.pin (b,o) (GQ _ (GQ _ (gW hb e)))).2.1
  cases f with
  |next=>obtain⟨σ7,H7,I7,n7⟩:=q7;exact again I7 n7
  |cont=>obtain⟨σ7,H7,I7,n7⟩:=q7;exact again I7 n7
  |brk=>obtain⟨σ7,H7,I7,q7⟩:=q7;exact⟨σ7,H7,I7.unpinned,q7⟩
  |ret v=>obtain⟨x7,σ7,H7,I7,r7,q7⟩:=q7;exact⟨x7,σ7,H7,I7.unpinned,r7,q7⟩
end
theorem eJ{K:Frag}{a:Addr}{xs:List V}{g:TG}{tb:TS}{D:Ends}{σ:St}{H:Hp}(Pv:Nat->St->Hp->Prop)(h0:Pv 0 σ H)(hl:∀i σ H,i<=xs.length->Pv i σ H->SqL K H a xs)
  (hs:∀i x σ H,xs[i]?=some x->Pv i σ H->g x σ H fun σ2 H2=>tb {D with nx:=Pv (i+1),ct:=Pv (i+1),bk:=D.nx} σ2 H2) (hd:∀σ H,Pv xs.length σ H->D.nx σ H):
  ∃W:Nat->Nat->St->Hp->Prop,(∃m,W 0 m σ H)/\∀i m σ H,W i m σ H->
   ((Itl K a).stop i H/\D.nx σ H)\/((Itl K a).go i H/\∃N:St->Hp->Prop,(∀σ' H',N σ' H'->∃m',m'<m/\W (i+1) m' σ' H')/\∀x H',(Itl K a).yld i H x H'->g x σ H' fun σ2 H2=>tb {D with nx:=N,ct:=N,bk:=D.nx} σ2 H2):=by
 refine⟨fun i m σ H=>m=xs.length-i/\i<=xs.length/\Pv i σ H,⟨xs.length,by simp,G1 _,h0⟩,?_⟩;rintro i m σ H ⟨rfl,hi,p⟩;have q:=hl i σ H hi p;by_cases hlt:i<xs.length
 ·refine .inr ⟨⟨xs,xs[i],q,by simp[hlt]⟩,Pv (i+1),fun σ' H' p'=>⟨xs.length-(i+1),by lia,rfl,hlt,p'⟩,fun x H' y=>?_⟩;obtain⟨e,y⟩:=y;subst e;exact hs i x σ _ (y xs q) p
 ·have e:i=xs.length:=by lia
  subst e;exact .inl ⟨⟨xs,q,Gr _⟩,hd σ H p⟩
theorem gv{K:Frag}{a:Addr}{xs:List V}{g:TG}{tb:TS}{D:Ends}{σ:St}{H:Hp}(Pv:Nat->St->Hp->Prop)(h0:Pv 0 σ H)(hl:∀i σ H,i<=xs.length->Pv i σ H->SqT K H a xs)
  (hs:∀i x σ H,xs[i]?=some x->Pv i σ H->g x σ H fun σ2 H2=>tb {D with nx:=Pv (i+1),ct:=Pv (i+1),bk:=D.nx} σ2 H2) (hd:∀σ H,Pv xs.length σ H->D.nx σ H):
  ∃W:Nat->Nat->St->Hp->Prop,(∃m,W 0 m σ H)/\∀i m σ H,W i m σ H->
   ((Itt K a).stop i H/\D.nx σ H)\/((Itt K a).go i H/\∃N:St->Hp->Prop,(∀σ' H',N σ' H'->∃m',m'<m/\W (i+1) m' σ' H')/\∀x H',(Itt K a).yld i H x H'->g x σ H' fun σ2 H2=>tb {D with nx:=N,ct:=N,bk:=D.nx} σ2 H2):=by
 refine⟨fun i m σ H=>m=xs.length-i/\i<=xs.length/\Pv i σ H,⟨xs.length,by simp,G1 _,h0⟩,?_⟩;rintro i m σ H ⟨rfl,hi,p⟩;have q:=hl i σ H hi p;by_cases hlt:i<xs.length
 ·refine .inr ⟨⟨xs,xs[i],q,by simp[hlt]⟩,Pv (i+1),fun σ' H' p'=>⟨xs.length-(i+1),by omega,rfl,hlt,p'⟩,fun x H' y=>?_⟩;obtain⟨e,y⟩:=y;subst e;exact hs i x σ _ (y xs q) p
 ·have e:i=xs.length:=by omega
  subst e;exact .inl ⟨⟨xs,q,Gr _⟩,hd σ H p⟩
theorem gE{lo:Int}{n:Nat}{g:TG}{tb:TS}{D:Ends}{σ:St}{H:Hp}(Pv:Nat->St->Hp->Prop)(h0:Pv 0 σ H)
  (hs:∀i σ H,i<n->Pv i σ H->g (.int (lo+i)) σ H fun σ2 H2=>tb {D with nx:=Pv (i+1),ct:=Pv (i+1),bk:=D.nx} σ2 H2) (hd:∀σ H,Pv n σ H->D.nx σ H):
  ∃W:Nat->Nat->St->Hp->Prop,(∃m,W 0 m σ H)/\∀i m σ H,W i m σ H->
   ((Itr lo n).stop i H/\D.nx σ H)\/((Itr lo n).go i H/\∃N:St->Hp->Prop,(∀σ' H',N σ' H'->∃m',m'<m/\W (i+1) m' σ' H')/\∀x H',(Itr lo n).yld i H x H'->g x σ H' fun σ2 H2=>tb {D with nx:=N,ct:=N,bk:=D.nx} σ2 H2):=by
 refine⟨fun i m σ H=>m=n-i/\i<=n/\Pv i σ H,⟨n,by simp,G1 _,h0⟩,?_⟩;rintro i m σ H ⟨rfl,hi,p⟩;by_cases hlt:i<n
 ·refine .inr ⟨hlt,Pv (i+1),fun σ' H' p'=>⟨n-(i+1),by lia,rfl,hlt,p'⟩,fun x H' y=>?_⟩;obtain⟨e,y⟩:=y;subst e y;exact hs i σ _ hlt p
 ·have e:i=n:=by lia
  subst e;exact .inl ⟨Gr _,hd σ H p⟩
noncomputable abbrev R2:=V->V->Hp->VK->Prop
def OpR(X:Cx)(f:Value->Value->Sem Value)(r:R2):Prop:=
 ∀(pins:List (Addr×Obj))(s:Shared)(σ:St)(H:Hp)(x y:V)(v u:Value)(Q:VK),Inv X pins σ H s->RelV x v->RelV y u->r x y H Q->
  wpAny (model X.prog X.w) X.A (f v u) (EP X pins σ Q) X.xe s
def UnR(X:Cx)(f:Value->Sem Value)(r:V->Hp->VK->Prop):Prop:=
 ∀(pins:List (Addr×Obj))(s:Shared)(σ:St)(H:Hp)(x:V)(v:Value)(Q:VK),Inv X pins σ H s->RelV x v->r x H Q->
  wpAny (model X.prog X.w) X.A (f v) (EP X pins σ Q) X.xe s
def fE(X:Cx)(f:Value)(r:List V->Hp->VK->Prop):Prop:=
 ∀(pins:List (Addr×Obj))(s:Shared)(σ:St)(H:Hp)(xs:List V)(us:List Value)(Q:VK),Inv X pins σ H s->Vals xs us->r xs H Q->
  wpAny (model X.prog X.w) X.A (call f us) (EP X pins σ Q) X.xe s
def tOp(r:R2)(ta tb:TE):TE:=fun σ H Q=>ta σ H fun x H1=>tb σ H1 fun y H2=>r x y H2 Q
def tUn(r:V->Hp->VK->Prop)(ta:TE):TE:=fun σ H Q=>ta σ H fun x H1=>r x H1 Q
noncomputable def rI(C:Int->Int->Prop)(g:Int->Int->V):R2:=fun x y H Q=>∃i j,x=.int i/\y=.int j/\C i j/\Q (g i j) H
noncomputable def rI0(g:Int->Int->V):R2:=fun x y H Q=>∃i j,x=.int i/\y=.int j/\Q (g i j) H
def rU(g:Int->V):V->Hp->VK->Prop:=fun x H Q=>∃i,x=.int i/\Q (g i) H
section
variable{X:Cx}{a b c:Expr}{ta tb tc:TE}{pos:Pos}
theorem Es(ha:PE X a ta)(hb:PE X b tb){pins:List (Addr×Obj)}{s:Shared}{σ:St}{H:Hp}{R:V->V->Hp->Prop}(I:Inv X pins σ H s)
  (h:ta σ H fun x H1=>tb σ H1 fun y H2=>R x y H2) {Q:Value->Shared->Prop} {f:Value->Value->Sem Value}
  (hf:∀v u s2 x y H2,Inv X pins σ H2 s2->RelV x v->RelV y u->R x y H2->wpAny (model X.prog X.w) X.A (f v u) Q X.xe s2):
  wpAny (model X.prog X.w) X.A (eval a X.env) (fun v s₁=>wpAny (model X.prog X.w) X.A (eval b X.env) (fun u s₂=>wpAny (model X.prog X.w) X.A (f v u) Q X.xe s₂) X.xe s₁) X.xe s:=by
 refine thn (ha pins s σ H _ I h) fun v s1 hPz=>?_;obtain⟨x,H1,I1,r1,q1⟩:=hPz;refine thn (hb pins s1 σ H1 _ I1 q1) fun u s2 hPz=>?_;obtain⟨y,H2,I2,r2,q2⟩:=hPz;exact hf v u s2 x y H2 I2 r1 r2 q2
theorem aq{op:Operator}{r:R2}(ho:OpR X (binaryOp op) r)(ha:PE X a ta)(hb:PE X b tb):PE X (.BinOp a op b pos) (tOp r ta tb):=by intro pins s σ H Q I h;exact wpAny_BinOp (Es ha hb I h fun v u s2 x y H2 I2 rx ry q=>ho pins s2 σ H2 x y v u Q I2 rx ry q)
theorem xk{op:UnaryOp}{r:V->Hp->VK->Prop}(ho:UnR X (unaryOp op) r)(ha:PE X a ta):PE X (.UnaryOp op a pos) (tUn r ta):=by intro pins s σ H Q I h;exact UnaryOp_ (thn (ha pins s σ H _ I h) fun v s1 hPz=>L2.ep3 hPz fun x H1 I1 r1 q1=>ho pins s1 σ H1 x v Q I1 r1 q1)
theorem opI{f:Value->Value->Sem Value}{C:Int->Int->Prop}{g:Int->Int->Int}
  (rule:∀(i j:Int)(t u:Tok)(s:Shared)(Q:Value->Shared->Prop)(E:Value->Shared->Prop),C i j->Q (.int (g i j) s.toks) {s with toks:=s.toks+1}->wpAny (model X.prog X.w) X.A (f (.int i t) (.int j u)) Q E s):
  OpR X f (rI C fun i j=>.int (g i j)):=by
 intro pins s σ H x y v u Q I rx ry h;obtain⟨i,j,rfl,rfl,hc,q⟩:=h;obtain⟨t,rfl⟩:=rx;obtain⟨t',rfl⟩:=ry;exact rule i j t t' s _ _ hc ⟨.int (g i j),H,I.tok _,⟨_,rfl⟩,q⟩
theorem zW{f:Value->Value->Sem Value}{g:Int->Int->Int}
  (rule:∀(i j:Int)(t u:Tok)(s:Shared)(Q:Value->Shared->Prop)(E:Value->Shared->Prop),Q (.int (g i j) s.toks) {s with toks:=s.toks+1}->wpAny (model X.prog X.w) X.A (f (.int i t) (.int j u)) Q E s):
  OpR X f (rI0 fun i j=>.int (g i j)):=by
 intro pins s σ H x y v u Q I rx ry h;obtain⟨i,j,rfl,rfl,q⟩:=h;obtain⟨t,rfl⟩:=rx;obtain⟨t',rfl⟩:=ry;exact rule i j t t' s _ _ ⟨.int (g i j),H,I.tok _,⟨_,rfl⟩,q⟩
theorem DH{f:Value->Value->Sem Value}{g:Int->Int->Bool}
  (rule:∀(i j:Int)(t u:Tok)(s:Shared)(Q:Value->Shared->Prop)(E:Value->Shared->Prop),Q (.bool (g i j)) s->wpAny (model X.prog X.w) X.A (f (.int i t) (.int j u)) Q E s):
  OpR X f (rI0 fun i j=>.bl (g i j)):=by
 intro pins s σ H x y v u Q I rx ry h;obtain⟨i,j,rfl,rfl,q⟩:=h;obtain⟨t,rfl⟩:=rx;obtain⟨t',rfl⟩:=ry;exact rule i j t t' s _ _ ⟨.bl (g i j),H,I,rfl,q⟩
def Gf(i j:Int):Prop:=0<j/\j<1073741824
def Fy(i j:Int):Prop:=0<=j/\j<=1000000/\i.natAbs<2^64
def EA(i j:Int):Prop:=(-(2^64)<i/\i<2^64)\/(-(2^64)<j/\j<2^64)
theorem EA.ok{i j:Int}(h:EA i j):IntMulOk i j:=by
 rcases h with⟨h1,h2⟩|⟨h1,h2⟩
 ·exact .of_left (intBits_le_64 h1 h2)
 ·exact .of_right (intBits_le_64 h1 h2)
theorem two_pow_nn(k:Nat):(0:Int)<=2^k:=by rw[two_pow_cast];exact Int.natCast_nonneg _
theorem bg:OpR X (binaryOp .Add) (rI0 fun i j=>.int (i+j)):=zW fun _ _ _ _ _ _ _ q=>add_int q
theorem eY:OpR X (binaryOp .Sub) (rI0 fun i j=>.int (i-j)):=zW fun _ _ _ _ _ _ _ q=>sub_int q
theorem cu:OpR X (binaryOp .Mult) (rI EA fun i j=>.int (i*j)):=opI fun _ _ _ _ _ _ _ hc q=>mul_int q hc.ok
theorem cg:OpR X (binaryOp .FloorDiv) (rI Gf fun i j=>.int (i / j)):=opI fun i j _ _ _ _ _ hc q=>by have h1:(0:Int)<j:=hc.1;have h2:j<1073741824:=hc.2;exact floordiv_int (by lia) (by rw[Int.fdiv_eq_ediv_of_nonneg i (by lia)];exact q) (.inl (PyProof.noPylong_small (by omega)))
theorem bp:OpR X (binaryOp .Mod) (rI (fun _ j=>0<j) fun i j=>.int (i % j)):=opI fun i j _ _ _ _ _ hc q=>by have h1:(0:Int)<j:=hc;exact mod_int' (by lia) (by rw[Int.fmod_eq_emod_of_nonneg i (by lia)];exact q)
theorem BQ:OpR X (binaryOp .Mod) (rI (fun _ j=>j≠0) fun i j=>.int (i.fmod j)):=opI fun _ _ _ _ _ _ _ hc q=>mod_int' hc q
theorem iU:OpR X (binaryOp .Pow) (rI Fy fun i j=>.int (i^j.toNat)):=opI fun _ _ _ _ _ _ _ hc q=>pow_int_small hc.1 hc.2.1 hc.2.2 q
theorem f7:OpR X (binaryOp .LShift) (rI Fy fun i j=>.int (i*2^j.toNat)):=opI fun _ _ _ _ _ _ _ hc q=>lshift_int_small hc.1 hc.2.1 hc.2.2 q
theorem DF:OpR X (binaryOp .RShift) (rI (fun _ j=>0<=j) fun i j=>.int (i / 2^j.toNat)):=opI fun i j _ _ _ _ _ hc q=>rshift_int hc (by rw[Int.fdiv_eq_ediv_of_nonneg i (two_pow_nn _)];exact q)
theorem ij:OpR X (binaryOp .BitAnd) (rI0 fun i j=>.int (Builtin.bitAnd i j)):=zW fun _ _ _ _ _ _ _ q=>and_int q
theorem xn:OpR X (binaryOp .BitOr) (rI0 fun i j=>.int (Builtin.bitOr i j)):=zW fun _ _ _ _ _ _ _ q=>or_int q
theorem zT:OpR X (binaryOp .BitXor) (rI0 fun i j=>.int (Builtin.bitXor i j)):=zW fun _ _ _ _ _ _ _ q=>xor_int q
theorem unI{f:Value->Sem Value}{g:Int->Int}
  (rule:∀(i:Int)(t:Tok)(s:Shared)(Q:Value->Shared->Prop)(E:Value->Shared->Prop),Q (.int (g i) s.toks) {s with toks:=s.toks+1}->wpAny (model X.prog X.w) X.A (f (.int i t)) Q E s):
  UnR X f (rU fun i=>.int (g i)):=by
 intro pins s σ H x v Q I rx h;obtain⟨i,rfl,q⟩:=h;obtain⟨t,rfl⟩:=rx;exact rule i t s _ _ ⟨.int (g i),H,I.tok _,⟨_,rfl⟩,q⟩
theorem Dc:UnR X (unaryOp .USub) (rU fun i=>.int (-i)):=unI fun _ _ _ _ _ q=>neg_int q
theorem vF:UnR X (unaryOp .Invert) (rU fun i=>.int (Builtin.bitNot i)):=unI fun _ _ _ _ _ q=>invert_int q
end
noncomputable def EW:V->V->Bool
 | .non,.non=>true| .non,.int _=>true| .int _,.non=>true| .non,.bl _=>true| .bl _,.non=>true| .non,.str _=>true| .str _,.non=>true
 | .int _,.int _=>true| .bl _,.bl _=>true| .str _,.str _=>true| .byt _,.byt _=>true
 | .int _,.str _=>true| .str _,.int _=>true| .bl _,.str _=>true| .str _,.bl _=>true
 |_,_=>false
noncomputable def rEq:R2:=fun x y H Q=>EW x y=true/\Q (.bl (decide (x=y))) H
noncomputable def rNe:R2:=fun x y H Q=>EW x y=true/\Q (.bl (!decide (x=y))) H
theorem xM{i j:Int}:decide (V.int i=V.int j)=(i==j):=by rw[Bool.eq_iff_iff];simp
theorem AM{i j:Bool}:decide (V.bl i=V.bl j)=(i==j):=by rw[Bool.eq_iff_iff];simp
theorem xK{i j:Str}:decide (V.str i=V.str j)=(i==j):=by rw[Bool.eq_iff_iff];simp
theorem xN{i j:Array UInt8}:decide (V.byt i=V.byt j)=(i.toList==j.toList):=by rw[Bool.eq_iff_iff];cases i;cases j;simp
section
variable{X:Cx}{a b c:Expr}{ta tb tc:TE}{pos:Pos}
theorem bA{pins:List (Addr×Obj)}{σ:St}{H:Hp}{s:Shared}{Q:VK}{k k':Bool}(I:Inv X pins σ H s)(q:Q (.bl k) H)(e:k=k'):EP X pins σ Q (.bool k') s:=by subst e;exact⟨.bl k,H,I,rfl,q⟩
theorem cj:OpR X (compareOp .Eq) rEq:=by
 intro pins s σ H x y v u Q I rx ry h;obtain⟨hs,q⟩:=h;cases x with
 |non=>
  cases rx;cases y with
  |non=>cases ry;exact PySem.EqNone.eq_none_none (bA I q (by simp))
  |bl j=>cases ry;exact PySem.EqNone.eq_none_bool (bA I q (by simp))
  |int j=>obtain⟨t',rfl⟩:=ry;exact PySem.EqNone.eq_none_int (bA I q (by simp))
  |str j=>obtain⟨t',rfl⟩:=ry;exact PySem.EqNone.eq_none_str (bA I q (by simp))
  |_=>exact absurd (show false=true from hs) GJ
 |bl i=>
  cases rx;cases y with
  |non=>cases ry;exact PySem.EqNone.eq_bool_none (bA I q (by simp))
  |bl j=>cases ry;exact eq_bool (bA I q AM)
  |str j=>obtain⟨t',rfl⟩:=ry;exact PySem.EqMixed.eq_bool_str (bA I q (by simp))
  |_=>exact absurd (show false=true from hs) GJ
 |int i=>
  obtain⟨t,rfl⟩:=rx;cases y with
  |non=>cases ry;exact PySem.EqNone.eq_int_none (bA I q (by simp))
  |int j=>obtain⟨t',rfl⟩:=ry;exact eq_int (bA I q xM)
  |str j=>obtain⟨t',rfl⟩:=ry;exact PySem.EqMixed.eq_int_str (bA I q (by simp))
  |_=>exact absurd (show false=true from hs) GJ
 |str i=>
  obtain⟨t,rfl⟩:=rx;cases y with
  |non=>cases ry;exact PySem.EqNone.eq_str_none (bA I q (by simp))
  |bl j=>cases ry;exact PySem.EqMixed.eq_str_bool (bA I q (by simp))
  |int j=>obtain⟨t',rfl⟩:=ry;exact PySem.EqMixed.eq_str_int (bA I q (by simp))
  |str j=>obtain⟨t',rfl⟩:=ry;exact eq_str (bA I q xK)
  |_=>exact absurd (show false=true from hs) GJ
 |byt i=>
  obtain⟨t,rfl⟩:=rx;cases y with
  |byt j=>obtain⟨t',rfl⟩:=ry;exact PySem.W.eq_bytes (bA I q xN)
  |_=>exact absurd (show false=true from hs) GJ
 |_=>cases y<;>exact absurd (show false=true from hs) GJ
theorem fW:OpR X (compareOp .NotEq) rNe:=by
 intro pins s σ H x y v u Q I rx ry h;obtain⟨hs,q⟩:=h;cases x with
 |non=>
  cases rx;cases y with
  |non=>cases ry;exact PySem.EqNone.ne_none_none (bA I q (by simp))
  |bl j=>cases ry;exact PySem.EqNone.ne_none_bool (bA I q (by simp))
  |int j=>obtain⟨t',rfl⟩:=ry;exact PySem.EqNone.ne_none_int (bA I q (by simp))
  |str j=>obtain⟨t',rfl⟩:=ry;exact PySem.EqNone.ne_none_str (bA I q (by simp))
  |_=>exact absurd (show false=true from hs) GJ
 |bl i=>
  cases rx;cases y with
  |non=>cases ry;exact PySem.EqNone.ne_bool_none (bA I q (by simp))
  |bl j=>cases ry;exact ne_bool (bA I q (congrArg not AM))
  |str j=>obtain⟨t',rfl⟩:=ry;exact PySem.EqMixed.ne_bool_str (bA I q (by simp))
  |_=>exact absurd (show false=true from hs) GJ
 |int i=>
  obtain⟨t,rfl⟩:=rx;cases y with
  |non=>cases ry;exact PySem.EqNone.ne_int_none (bA I q (by simp))
  |int j=>obtain⟨t',rfl⟩:=ry;exact ne_int (bA I q (congrArg not xM))
  |str j=>obtain⟨t',rfl⟩:=ry;exact PySem.EqMixed.ne_int_str (bA I q (by simp))
  |_=>exact absurd (show false=true from hs) GJ
 |str i=>
  obtain⟨t,rfl⟩:=rx;cases y with
  |non=>cases ry;exact PySem.EqNone.ne_str_none (bA I q (by simp))
  |bl j=>cases ry;exact PySem.EqMixed.ne_str_bool (bA I q (by simp))
  |int j=>obtain⟨t',rfl⟩:=ry;exact PySem.EqMixed.ne_str_int (bA I q (by simp))
  |str j=>obtain⟨t',rfl⟩:=ry;exact ne_str (bA I q (congrArg not xK))
  |_=>exact absurd (show false=true from hs) GJ
 |byt i=>
  obtain⟨t,rfl⟩:=rx;cases y with
  |byt j=>obtain⟨t',rfl⟩:=ry;exact PySem.W.ne_bytes (bA I q (congrArg not xN))
  |_=>exact absurd (show false=true from hs) GJ
 |_=>cases y<;>exact absurd (show false=true from hs) GJ
theorem rS:OpR X (compareOp .Lt) (rI0 fun i j=>.bl (decide (i<j))):=DH fun _ _ _ _ _ _ _ q=>lt_int q
theorem jH:OpR X (compareOp .Gt) (rI0 fun i j=>.bl (decide (j<i))):=DH fun _ _ _ _ _ _ _ q=>gt_int q
theorem CS:OpR X (compareOp .GtE) (rI0 fun i j=>.bl (decide (j<=i))):=DH fun _ _ _ _ _ _ _ q=>ge_int q
theorem ig:OpR X (compareOp .Is) (fun x y H Q=>y=.non/\Q (.bl (decide (x=.non))) H):=by
 intro pins s σ H x y v u Q I rx ry h;obtain⟨rfl,q⟩:=h;cases ry;refine is_none_gen (bA I q ?_);cases x<;>first
  |(cases rx;rfl)
  |(obtain⟨t,rfl⟩:=rx;rfl)
theorem pf:OpR X (compareOp .IsNot) (fun x y H Q=>y=.non/\Q (.bl (!decide (x=.non))) H):=by
 intro pins s σ H x y v u Q I rx ry h;obtain⟨rfl,q⟩:=h;cases ry;refine isnot_none_gen (bA I q ?_);cases x<;>first
  |(cases rx;rfl)
  |(obtain⟨t,rfl⟩:=rx;rfl)
theorem aE(b:Expr){op:CmpOp}(h:op≠ .In:=by decide)(h2:op≠ .NotIn:=by decide):behindInMarks op b=false:=by
 have e1:(op==CmpOp.In)=false:=by cases op<;>first|rfl|exact absurd rfl h
 have e2:(op==CmpOp.NotIn)=false:=by cases op<;>first|rfl|exact absurd rfl h2
 cases b<;>simp[behindInMarks,e1,e2]
theorem cB{op:CmpOp}{r:R2}(ho:OpR X (compareOp op) r)(ha:PE X a ta)(hb:PE X b tb)(hm:behindInMarks op b=false):PE X (.Compare a [op] [b] pos) (tOp r ta tb):=by intro pins s σ H Q I h;exact wpAny_Compare1 (Es ha hb I h fun v u s2 x y H2 I2 rx ry q=>ho pins s2 σ H2 x y v u Q I2 rx ry q) hm
def EG(t:TE):TT:=fun σ H Q=>t σ H fun x H'=>∃k,x=.bl k/\Q k H'
theorem aD{op:CmpOp}{r:R2}(ho:OpR X (compareOp op) r)(ha:PE X a ta)(hb:PE X b tb)(hm:behindInMarks op b=false):PT X (.Compare a [op] [b] pos) (EG (tOp r ta tb)):=by
 intro pins s σ H Q I h
 refine wpAny_isTrue_Compare1 (thn (ha pins s σ H _ I h) fun v s1 hPz=>L2.ep3 hPz fun x H1 I1 r1 q1=>thn (hb pins s1 σ H1 _ I1 q1) fun u s2 ⟨y,H2,I2,r2,q2⟩=>thn (ho pins s2 σ H2 x y v u _ I2 r1 r2 q2) fun c s3 ⟨z,H3,I3,r3,k,e,q3⟩=>?_) hm
 subst e;cases r3;exact wpAny_truthy_bool ⟨H3,I3,q3⟩
theorem ql:(sizeLine:Nat)<2^63:=by rw[Hl];decide
theorem p7:OpR X (binaryOp .Add) (fun x y H Q=>∃i j,x=.str i/\y=.str j/\i.length+j.length<=sizeLine/\Q (.str (i++j)) H):=by intro pins s σ H x y v u Q I rx ry h;obtain⟨i,j,rfl,rfl,hz,q⟩:=h;obtain⟨t,rfl⟩:=rx;obtain⟨t',rfl⟩:=ry;exact add_str (fun t' tk=>⟨.str (i++j),H,I.tok _,⟨_,rfl⟩,q⟩) hz
theorem vals1{x:V}{us:List Value}(r:Vals [x] us):∃u,us=[u]/\RelV x u:=by
 cases r with
 |cons r1 r2=>cases r2;exact⟨_,rfl,r1⟩
theorem vals2{x y:V}{us:List Value}(r:Vals [x,y] us):∃u w',us=[u,w']/\RelV x u/\RelV y w':=by
 cases r with
 |cons r1 r2=>
  cases r2 with
  |cons r3 r4=>cases r4;exact⟨_,_,rfl,r1,r3⟩
theorem yU(hc:X.calm=true):fE X (.builtin "max") (fun xs H Q=>∃i j,xs=[.int i,.int j]/\Q (.int (if j>i then j else i)) H):=by
 intro pins s σ H xs us Q I r h;obtain⟨i,j,rfl,q⟩:=h;obtain⟨u,w',rfl,⟨t,rfl⟩,⟨t',rfl⟩⟩:=vals2 r;refine max_two_ints (I.ok.hd hc) fun h' tk k=>⟨_,H,I.kept k,?_,q⟩;by_cases hj:j>i
 ·rw[Gz hj,Gz hj];exact⟨_,rfl⟩
 ·rw[Gu hj,Gu hj];exact⟨_,rfl⟩
theorem yS(hc:X.calm=true):fE X (.builtin "min") (fun xs H Q=>∃i j,xs=[.int i,.int j]/\Q (.int (if j<i then j else i)) H):=by
 intro pins s σ H xs us Q I r h;obtain⟨i,j,rfl,q⟩:=h;obtain⟨u,w',rfl,⟨t,rfl⟩,⟨t',rfl⟩⟩:=vals2 r;refine min_two_ints (I.ok.hd hc) fun h' tk k=>⟨_,H,I.kept k,?_,q⟩;by_cases hj:j<i
 ·rw[Gz hj,Gz hj];exact⟨_,rfl⟩
 ·rw[Gu hj,Gu hj];exact⟨_,rfl⟩
theorem ke:fE X (.type "int") (fun xs H Q=>(∃i,xs=[.int i]/\Q (.int i) H)\/∃k,xs=[.bl k]/\Q (.int (if k then 1 else 0)) H):=by
 intro pins s σ H xs us Q I r h;rcases h with⟨i,rfl,q⟩|⟨k,rfl,q⟩
 ·obtain⟨u,rfl,t,rfl⟩:=vals1 r;exact call_int_int ⟨.int i,H,I,⟨_,rfl⟩,q⟩
 ·obtain⟨u,rfl,r1⟩:=vals1 r;cases r1;exact call_int_bool ⟨.int (if k then 1 else 0),H,I.tok _,⟨_,rfl⟩,q⟩
end
structure wU(h:Heap)(x dx C:Addr)(mA:Str->Option Value):Prop where
 obj:h.get? x=some (PySem.W.instObj C dx)
 ns:h.Ns1 dx mA
 ne:dx≠x
theorem rY{h:Heap}{dx:Addr}{mA:Str->Option Value}(n:h.Ns1 dx mA):∃od,h.get? dx=some od/\∀name,PySem.W.lookIn name od=some (mA name):=by
 obtain⟨o,es,ep,ho,hd,hk,_,hm⟩:=n;refine⟨o,ho,fun name=>?_⟩;have e:=hm name;unfold nsFind findBy at e;rw[<-Array.find?_toList]at e;unfold PySem.W.lookIn;rw[hd];dsimp only;split
 ·rename_i y q;rw[q]at e;exact congrArg some e
 ·rename_i q;rw[q]at e;have a:es.toList.any (·.refKey)=false:=by
   rw[List.any_eq_false];intro y hy;obtain⟨z,t,hkey⟩:=hk y (Array.mem_toList_iff.mp hy);simp[DictEntry.refKey,hkey]
  have a':¬es.toList.any (·.refKey)=true:=by rw[a];exact GJ
  rw[Gu a'];exact congrArg some e
theorem wU.look{h:Heap}{x dx C:Addr}{mA:Str->Option Value}(I:wU h x dx C mA):∃od,PySem.W.InstAt h x (PySem.W.instObj C dx) C (some od)/\∀name,PySem.W.lookIn name od=some (mA name):=
 let ⟨od,ho,hl⟩:=rY I.ns
 ⟨od,⟨I.obj,rfl,rfl,ho⟩,hl⟩
section
variable{prog:Program}{w:World}{A:Around}{E:Value->Shared->Prop}{s:Shared}{K:Frag}{x dx C f:Addr}{mA:Str->Option Value}{name:Str}{v:Value}
theorem get_map{expr:Bool}{Q:Value->Shared->Prop}(X:K.In s.heap)(I:wU s.heap x dx C mA)(hg:PySem.W.plainGet K C name=true)(hh:PySem.W.hasDictIn K C=true)
  (ha:findIn K (.ref C) name=some none) (hv:mA name=some v) (hv':PySem.W.handedIn v=true) (h:Q v {s with toks:=s.toks+1}):
  wpAny (model prog w) A (getAttr (.ref x) name expr) Q E s:=by
 obtain⟨od,J,hl⟩:=I.look;exact PySem.W.get_value X J (PySem.W.plainGet_of hg).1 (PySem.W.findObj_own hh ha rfl (by rw[hl,hv])) hv' h
theorem Au{pl:Sem Bool}{Q:Value×List Value->Shared->Prop}(X:K.In s.heap)(I:wU s.heap x dx C mA)(hg:PySem.W.plainGet K C name=true)
  (hf:findIn K (.ref C) name=some (some (.ref f))) (ht:PySem.W.isFn K (.ref f)=true) (hv:mA name=none) (h:Q (.ref f,[.ref x]) s):
  wpAny (model prog w) A (getMethod (.ref x) name pl) Q E s:=by
 obtain⟨od,J,hl⟩:=I.look;exact PySem.W.method_fn X J (PySem.W.plainGet_of hg).1 (PySem.W.plainGet_of hg).2 hf (beq_iff_eq.mp ht) (by show(PySem.W.lookIn name od).map (·.isSome)=some false;rw[hl,hv];rfl) h
theorem Bz{ns:List Str}{Q:Unit->Shared->Prop}(X:K.In s.heap)(I:wU s.heap x dx C mA)
  (hs:findIn K (.ref C) "__setattr__"=some (some (.builtin "object.__setattr__"))) (hp:PySem.W.plainOver K C=true) (ht:PySem.W.takerIn K C name=some none) (hh:PySem.W.hasDictIn K C=true)
  (hw:PySem.Within mA ns) (hsz:ns.length<=sizeLine)
  (h:∀h',wU h' x dx C (fun y=>if y=name then some v else mA y)->Heap.SameBut dx s.heap h'->Q () {s with heap:=h',toks:=s.toks+2}):
  wpAny (model prog w) A (setAttr (.ref x) name v) Q E s:=by
 obtain⟨od,J,hl⟩:=I.look;refine PySem.W.set_plain X J hs (PySem.W.osa_open (s:={s with toks:=s.toks+1}) (r:=none) X J hp ht fun b=>?_);obtain⟨cd,hc,hd'⟩:=PySem.W.any_some hh;have hx:s.heap.get? x=some ⟨.ref C,some dx,.plain,#[]⟩:=I.obj;refine Gg (Gj (Gg (Gg (wpAny_loadPart hx (Gg (PySem.W.Looks.here (s:={s with toks:=s.toks+1}) (PySem.W.looks_clsIn X hc) ?_))))));rw[hd'];refine Gj (a:=some dx) (Gg (Gj (Gg ?_)));refine wpAny_nsSet1 (s:={s with toks:=s.toks+1}) I.ns fun h' hn2 hs2=>?_;obtain⟨oD,esD,epD,hoD,hdD,hcD⟩:=hn2.count (PySem.Within.cons name v hw);refine Gg (wpAny_lookBehind hoD (by rw[hdD];exact pastItsLine_dict (G0 hcD (by rw[GV];lia))) ?_);exact Gj (h _ ⟨(hs2.2 _ (HB I.ne)).trans I.obj,hn2,I.ne⟩ hs2)
theorem Ac{R:Result->Shared->Prop}{vs:List Value}{kw:List (Str×Value)}(X:K.In s.heap)(hm:PySem.W.makesIn K C=true)
  (hi:findIn K (.ref C) "__init__"=some (some (.ref f))) (hf:PySem.W.typeIn K (.ref f)=some (.type "function"))
  (h:codeAny (model prog w) (A.under (.builtin "type.__call__" ⟨.ref C::vs,kw⟩)) (.call (.ref f) ⟨.ref (s.heap.objs.size+1)::vs,kw⟩) (PySem.W.InitBack (s.heap.objs.size+1) R) {s with heap:=(s.heap.push PySem.W.emptyDict).push (PySem.W.instObj C s.heap.objs.size)}):
  codeAny (model prog w) A (.call (.ref C) ⟨vs,kw⟩) R s:=by
 obtain⟨hh,g,d,t,os⟩:=s;exact PySem.W.make_core (PySem.W.makes_of X hm) (PySem.W.looks_findIn X hi) (fun self=>PySem.W.bind_fn X self hf) (.inl rfl) h
end
noncomputable def kj(f:Str)(v:V):List (Str×V)->List (Str×V)
 | []=>[(f,v)]
 |(g,x)::r=>if g=f then(g,v)::r else(g,x)::kj f v r
theorem oB(f g:Str)(v:V):∀fs:List (Str×V),(kj f v fs).lookup g=if g=f then some v else fs.lookup g
 | []=>by
  show List.lookup g [(f,v)]=_;by_cases h:g=f
  ·have hb:(g==f)=true:=beq_iff_eq.mpr h;simp only[List.lookup,hb,Gz h]
  ·have hb:(g==f)=false:=beq_eq_false_iff_ne.mpr h;simp only[List.lookup,hb,Gu h]
 |(k,x)::r=>by
  have ih:=oB f g v r;rw[show kj f v ((k,x)::r)=(if k=f then(k,v)::r else(k,x)::kj f v r)from rfl];by_cases hk:k=f
  ·rw[Gz hk];by_cases h:g=k
   ·have hb:(g==k)=true:=beq_iff_eq.mpr h;simp only[List.lookup,hb,Gz (h.trans hk)]
   ·have hb:(g==k)=false:=beq_eq_false_iff_ne.mpr h;simp only[List.lookup,hb,Gu (fun e:g=f=>h (e.trans hk.symm))]
  ·rw[Gu hk];by_cases h:g=k
   ·have hb:(g==k)=true:=beq_iff_eq.mpr h;simp only[List.lookup,hb,Gu (fun e:g=f=>hk (h.symm.trans e))]
   ·have hb:(g==k)=false:=beq_eq_false_iff_ne.mpr h;simp only[List.lookup,hb];exact ih
theorem nK(f:Str)(v:V):∀fs:List (Str×V),f∈(kj f v fs).map (·.1)/\∀g,g∈fs.map (·.1)->g∈(kj f v fs).map (·.1)
 | []=>⟨by simp[kj],fun g h=>by simp at h⟩
 |(k,x)::r=>by
  obtain⟨i1,i2⟩:=nK f v r;rw[show kj f v ((k,x)::r)=(if k=f then(k,v)::r else(k,x)::kj f v r)from rfl];by_cases hk:k=f
  ·rw[Gz hk];subst hk;exact⟨by simp,fun g h=>by simpa using h⟩
  ·rw[Gu hk];refine⟨?_,fun g h=>?_⟩
   ·rw[GC];exact Gs _ i1
   ·rw[GC]at h ⊢;rcases GH.mp h with e|e
    ·exact GH.mpr (.inl e)
    ·exact Gs _ (i2 g e)
theorem oF(f:Str)(v:V):∀fs:List (Str×V),(kj f v fs).length<=fs.length+1
 | []=>by simp[kj]
 |(k,x)::r=>by
  have ih:=oF f v r;rw[show kj f v ((k,x)::r)=(if k=f then(k,v)::r else(k,x)::kj f v r)from rfl];by_cases hk:k=f
  ·rw[Gz hk,GV,GV];lia
  ·rw[Gu hk,GV,GV];lia
theorem iq.some_of{v:V}{o:Option Value}(r:iq (some v) o):∃u,o=some u/\RelV v u:=by
 cases o with
 |none=>exact(show False from r).elim
 |some u=>exact⟨u,rfl,r⟩
theorem iq.none_of{o:Option Value}(r:iq none o):o=none:=by
 cases o with
 |none=>rfl
 |some u=>exact(show False from r).elim
theorem r8{v:V}{u:Value}(r:RelV v u):PySem.W.handedIn u=true:=by
 cases v with
 |non=>cases (show u=Value.none from r);rfl
 |bl b=>cases (show u=Value.bool b from r);rfl
 |int i=>obtain⟨t,e⟩:=(show ∃t,u=Value.int i t from r);cases e;rfl
 |str x=>obtain⟨t,e⟩:=(show ∃t,u=Value.str x t from r);cases e;rfl
 |byt b=>obtain⟨t,e⟩:=(show ∃t,u=Value.bytes b t from r);cases e;rfl
 |flt b=>obtain⟨t,e⟩:=(show ∃t,u=Value.float b t from r);cases e;rfl
 |ref a=>cases (show u=Value.ref a from r);rfl
 |ty n=>cases (show u=Value.type n from r);rfl
section
variable{P:Program}{w:World}{H H':Hp}{h h':Heap}{a C dx:Addr}{fs fs':List (Str×V)}
theorem pq(hok:HOk P w H h)(e:H a=some (.ins C dx fs)):∃mA,wU h a dx C mA/\(∀f,iq (fs.lookup f) (mA f))/\PySem.Within mA (fs.map (·.1))/\fs.length<=1000/\H dx=some (.own a):=by obtain⟨d,z,ne,ob,mA,n,r,q⟩:=(show b9 P w H h a (.ins C dx fs)from hok a _ e);exact⟨mA,⟨ob,n,ne⟩,r,q,z,d⟩
end
structure Cls(K:Frag)(C:Addr):Prop where
 pg:PySem.W.plainGet K C Str.empty=true
 hd:PySem.W.hasDictIn K C=true
 po:PySem.W.plainOver K C=true
 sa:findIn K (.ref C) "__setattr__"=some (some (.builtin "object.__setattr__"))
theorem Cls.get{K:Frag}{C:Addr}(c:Cls K C)(f:Str):PySem.W.plainGet K C f=true:=c.pg
def aW(K:Frag)(C:Addr)(f:Str):Prop:=findIn K (.ref C) f=some none
theorem aW.taker{K:Frag}{C:Addr}{f:Str}(n:aW K C f):PySem.W.takerIn K C f=some none:=by unfold PySem.W.takerIn;rw[show findIn K (.ref C) f=some none from n];rfl
structure Meth(K:Frag)(C:Addr)(m:Str)(f:Addr):Prop where
 at_:findIn K (.ref C) m=some (some (.ref f))
 fn:PySem.W.isFn K (.ref f)=true
 kp:keepIn K (.ref f)=true
section
variable{X:Cx}{pins:List (Addr×Obj)}{σ:St}{H:Hp}{s:Shared}{a C dx:Addr}{fs:List (Str×V)}{f:Str}{v:V}{A:Around}{E:Value->Shared->Prop}
theorem wC{b:Bool}{Q:Value->Shared->Prop}(I:Inv X pins σ H s)(e:H a=some (.ins C dx fs))(c:Cls X.K C)(n:aW X.K C f)(l:fs.lookup f=some v)
  (h:∀u s',Inv X pins σ H s'->RelV v u->Q u s'):wpAny (model X.prog X.w) A (getAttr (.ref a) f b) Q E s:=by
 obtain⟨mA,O,r,_,_,_⟩:=pq I.hok e;obtain⟨u,hu,ru⟩:=iq.some_of (v:=v) (o:=mA f) (by rw[<-l];exact r f);exact get_map I.kIn O (c.get f) c.hd n hu (r8 ru) (h u _ (I.tok _) ru)
theorem qt{m:Str}{g:Addr}{pl:Sem Bool}{Q:Value×List Value->Shared->Prop}(I:Inv X pins σ H s)(e:H a=some (.ins C dx fs))(c:Cls X.K C)(k:Meth X.K C m g)(l:fs.lookup m=none)
  (h:Q (.ref g,[.ref a]) s):wpAny (model X.prog X.w) A (getMethod (.ref a) m pl) Q E s:=by
 obtain⟨mA,O,r,_,_,_⟩:=pq I.hok e;have hn:mA m=none:=iq.none_of (by rw[<-l];exact r m);exact Au I.kIn O (c.get m) k.at_ k.fn hn h
theorem vM{y:V}{u:Value}{Q:Unit->Shared->Prop}(I:Inv X pins σ H s)(e:H a=some (.ins C dx fs))(c:Cls X.K C)(n:aW X.K C f)(hl:fs.length<1000)(ry:RelV y u)
  (h:∀s',Inv X pins σ (upd H a (.ins C dx (kj f y fs))) s'->Q () s'):wpAny (model X.prog X.w) A (setAttr (.ref a) f u) Q E s:=by
 obtain⟨mA,O,r,wi,_,ho⟩:=pq I.hok e;have hz:(fs.map (·.1)).length<=sizeLine:=by rw[Gh,Hl];lia
 refine Bz I.kIn O c.sa c.po n.taker c.hd wi hz fun h' O' sb=>h _ ?_;have hd:∃o,h'.get? dx=some o:=let ⟨o,_,_,e',_⟩:=O'.ns;⟨o,e'⟩;refine I.write (x:=a) (e:=dx) (by rw[e];exact True.intro) (.inr ho) (fun b q hb z=>(sb.2 b hb).trans z) hd ?_;refine⟨by rw[av O.ne];exact ho,?_,O.ne,O'.obj,_,O'.ns,fun g=>?_,fun g hg=>?_⟩
 ·have:=oF f y fs;lia
 ·show iq ((kj f y fs).lookup g) (if g=f then some u else mA g);rw[oB];by_cases q:g=f
  ·rw[Gz q,Gz q];exact ry
  ·rw[Gu q,Gu q];exact r g
 ·by_cases q:g=f
  ·rw[q];exact(nK f y fs).1
  ·refine(nK f y fs).2 g (wi g fun z=>hg ?_);show(if g=f then some u else mA g)=none;rw[Gu q];exact z
theorem Inv.made(I:Inv X pins σ H s):Inv X pins σ (upd (upd H s.heap.objs.size (.own (s.heap.objs.size+1))) (s.heap.objs.size+1) (.ins C s.heap.objs.size []))
  {s with heap:=(s.heap.push PySem.W.emptyDict).push (PySem.W.instObj C s.heap.objs.size)}:=by
 have e1:(s.heap.push PySem.W.emptyDict).get? s.heap.objs.size=some PySem.W.emptyDict:=GO s.heap rfl;have e2:((s.heap.push PySem.W.emptyDict).push (PySem.W.instObj C s.heap.objs.size)).get? (s.heap.objs.size+1)=some (PySem.W.instObj C s.heap.objs.size):=by have:=GO (s.heap.push PySem.W.emptyDict) (o:=PySem.W.instObj C s.heap.objs.size) rfl;rwa[Heap.size_push]at this
 have e3:(s.heap.push PySem.W.emptyDict).Ns s.heap.objs.size (fun _=>none):=⟨PySem.W.emptyDict,#[],_,e1,rfl,(fun e he=>absurd he (by simp)),fun _=>rfl⟩;have I1:=I.laid (a:=s.heap.objs.size) (o:=.own (s.heap.objs.size+1)) (h':=s.heap.push PySem.W.emptyDict) (t':=s.toks) (fun b u q=>Gi _ q) (Gr _) ⟨_,e1⟩;refine I1.laid (a:=s.heap.objs.size+1) (o:=.ins C s.heap.objs.size []) (t':=s.toks) (fun b u q=>Gi _ q) (Nat.le_of_eq (Heap.size_push _ _)) ?_;have ne:s.heap.objs.size≠s.heap.objs.size+1:=G5 (Nat.lt_succ_self _);refine⟨by rw[av ne,af],G1 _,ne,e2,fun _=>none,(Heap.Ns1.of_empty e3).at fun o q=>Gi _ q,fun _=>True.intro,fun y hy=>absurd rfl hy⟩
theorem xT{prog:Program}{w:World}{env:Env}{e:Expr}{f:Str}{pos:Pos}{s:Shared}{Q:Value->Shared->Prop}(hb:attributeBase e f env (eval e env)=eval e env)
  (h:wpAny (model prog w) A (eval e env) (fun o s₁=>wpAny (model prog w) A (getAttr o f true) Q E s₁) E s):wpAny (model prog w) A (eval (.Attribute e f pos) env) Q E s:=
 Attribute_any_ h (by rw[arm_eval_Attribute,hb])
end
def FL(K:Frag)(ta:TE)(f:Str):TE:=fun σ H Q=>ta σ H fun x H1=>∃a C dx fs v,x=.ref a/\H1 a=some (.ins C dx fs)/\Cls K C/\aW K C f/\fs.lookup f=some v/\Q v H1
def FQ(K:Frag)(ta tv:TE)(f:Str):TS:=fun D σ H=>tv σ H fun y H1=>ta σ H1 fun x H2=>∃a C dx fs,x=.ref a/\H2 a=some (.ins C dx fs)/\Cls K C/\aW K C f/\fs.length<1000/\
 D.nx σ (upd H2 a (.ins C dx (kj f y fs)))
section
variable{X:Cx}{o e value:Expr}{f:Str}{pos pos' tpos:Pos}{ta tv:TE}
theorem c8(he:PE X e ta)(hb:attributeBase e f X.env (eval e X.env)=eval e X.env):PE X (.Attribute e f pos) (FL X.K ta f):=by intro pins s σ H Q I h;refine xT hb (thn (he pins s σ H _ I h) fun u s1 hPz=>?_);obtain⟨x,H1,I1,rx,a,C,dx,fs,v,ex,ea,c,n,l,q⟩:=hPz;subst ex;obtain rfl:u=Value.ref a:=rx;exact wC I1 ea c n l fun u' s2 I2 ru=>⟨v,H1,I2,ru,q⟩
theorem f6(ha:PE X o ta)(hv:PE X value tv)(hs:swapsWith value (some (.Attribute o f pos')) pos.line X.env=pure false):PS X (.Assign [.Attribute o f pos'] value pos) (FQ X.K ta tv f):=by intro pins s σ H D I h;refine plainObj_wpAny_Assign_Attribute (thn (hv pins s σ H _ I h) fun u s1 hPz=>L2.ep3 hPz fun y H1 I1 ry q=>thn (ha pins s1 σ H1 _ I1 q) fun ov s2 hPz=>?_) hs;obtain⟨x,H2,I2,rx,a,C,dx,fs,ex,ea,c,n,l,q2⟩:=hPz;subst ex;obtain rfl:ov=Value.ref a:=rx;exact vM I2 ea c n l ry fun s3 I3=>⟨σ,_,I3,q2⟩
end
section
variable{X:Cx}{pins:List (Addr×Obj)}{σ:St}{H:Hp}{s:Shared}{A:Around}{E:Value->Shared->Prop}{Q:Value->Shared->Prop}{c:Value}{b:Bool}
inductive g5(K:Frag)(H:Hp):V->Value->Prop where
 |non:g5 K H .non (.type "NoneType")
 |bl (x:Bool):g5 K H (.bl x) (.type "bool")
 |int (i:Int):g5 K H (.int i) (.type "int")
 |str (x:Str):g5 K H (.str x) (.type "str")
 |flt (x:UInt64):g5 K H (.flt x) (.type "float")
 |lst {a:Addr} {xs:List V} (e:H a=some (.lst xs)):g5 K H (.ref a) (.type "list")
 |frz {a:Addr} {o:Obj} {xs:List V} (e:H a=some (.frz o (.lst xs))):g5 K H (.ref a) (.type "list")
 |tup {a:Addr} {xs:List V} (e:H a=some (.tup xs)):g5 K H (.ref a) (.type "tuple")
 |dK {a:Addr} {kvs:List (Key×V)} (e:H a=some (.dK kvs)):g5 K H (.ref a) (.type "dict")
 |dT {a:Addr} {kvs:List (List Key×V)} (e:H a=some (.dT kvs)):g5 K H (.ref a) (.type "dict")
 |ins {a C dx:Addr} {fs:List (Str×V)} (e:H a=some (.ins C dx fs)) (cl:Cls K C) (ha:findIn K (.ref C) "__class__"=some (some (.builtin "object.__class__")))
  (hn:PySem.W.specialIn K (.builtin "object.__class__") "__get__"=some (some (.builtin "getset_descriptor.__get__"))) (htk:PySem.W.takesIn K (.builtin "object.__class__")=some true)
  (hm:mroIn K C (.type "object")=some true):g5 K H (.ref a) (.ref C)
theorem yE{x:V}{u t:Value}(I:Inv X pins σ H s)(rx:RelV x u)(ty:g5 X.K H x t)(e:kitOne X.K t c=some b)(h:∀tk,Q (.bool b) {s with toks:=tk}):
  wpAny (model X.prog X.w) A (call (.builtin "isinstance") [u,c]) Q E s:=by
 cases ty with
 |non=>cases (show u=Value.none from rx);exact HJ PySem.W.kitx_none I.kIn True.intro e (fun z=>nomatch z) h
 |bl y=>cases (show u=Value.bool y from rx);exact HJ PySem.W.kitx_bool I.kIn True.intro e (fun z=>nomatch z) h
 |int i=>obtain⟨t,q⟩:=(show ∃t,u=Value.int i t from rx);cases q;exact HJ PySem.W.kitx_int I.kIn True.intro e (fun z=>nomatch z) h
 |str y=>obtain⟨t,q⟩:=(show ∃t,u=Value.str y t from rx);cases q;exact HJ PySem.W.kitx_str I.kIn True.intro e (fun z=>nomatch z) h
 |flt y=>obtain⟨t,q⟩:=(show ∃t,u=Value.float y t from rx);cases q;exact HJ PySem.W.kitx_float I.kIn True.intro e (fun z=>nomatch z) h
 | @lst a xs ea=>cases (show u=Value.ref a from rx);obtain⟨_,_,n,_,h1⟩:=(show b9 X.prog X.w H s.heap a (.lst xs)from I.hok a _ ea);exact HJ PySem.W.kitx_list I.kIn ⟨_,h1,rfl⟩ e (fun z=>nomatch z) h
 | @frz a ob xs ea=>cases (show u=Value.ref a from rx);obtain⟨_,_,_,n,_,h1⟩:=(show b9 X.prog X.w H s.heap a (.frz ob (.lst xs))from I.hok a _ ea);exact HJ PySem.W.kitx_list I.kIn ⟨_,h1,rfl⟩ e (fun z=>nomatch z) h
 | @tup a xs ea=>cases (show u=Value.ref a from rx);obtain⟨_,_,_,p⟩:=(show b9 X.prog X.w H s.heap a (.tup xs)from I.hok a _ ea);obtain⟨o,h1,h2,_⟩:=p;exact HJ PySem.W.kitx_tuple I.kIn ⟨o,h1,h2⟩ e (fun z=>nomatch z) h
 | @dK a kvs ea=>cases (show u=Value.ref a from rx);obtain⟨_,_,vs,_,p⟩:=(show b9 X.prog X.w H s.heap a (.dK kvs)from I.hok a _ ea);obtain⟨o,es,ep,h1,h2,_⟩:=p;exact HJ PySem.W.kitx_dict I.kIn ⟨o,h1,h2.1⟩ e (fun z=>nomatch z) h
 | @dT a kvs ea=>cases (show u=Value.ref a from rx);obtain⟨_,_,xs,_,o,es,ep,h1,h2,_⟩:=(show b9 X.prog X.w H s.heap a (.dT kvs)from I.hok a _ ea);exact HJ PySem.W.kitx_dict I.kIn ⟨o,h1,h2.1⟩ e (fun z=>nomatch z) h
 | @ins a C dx fs ea cl ha hn htk hm=>cases (show u=Value.ref a from rx);obtain⟨mA,O,_⟩:=pq I.hok ea;obtain⟨od,J,_⟩:=O.look;exact HJ (PySem.W.kitx_own (cl.get _) cl.hd ha hn htk hm) I.kIn J e (fun z=>nomatch z) h
end
structure cy(k:Nat)(A:Around):Prop where
 hd:A.handled=none
 dp:A.depth+3*k+5<recursionLimit
 un:A.units+16*k+200<cLine
theorem cy.mono{j k:Nat}{A:Around}(r:cy k A)(h:j<=k):cy j A:=⟨r.hd,by have:=r.dp;lia,by have:=r.un;lia⟩
theorem cy.deeper{k:Nat}{A:Around}(r:cy (k+1) A)(env:Env):cy k (A.deeper env):=
 ⟨r.hd,by have:=r.dp;show A.depth+1+3*k+5<_;lia,by have:=r.un;show A.units+3+16*k+200<_;lia⟩
theorem cy.in1{k:Nat}{A:Around}(r:cy (k+1) A):cy k A.in1:=
 ⟨r.hd,by have:=r.dp;show A.depth+3*k+5<_;lia,by have:=r.un;show A.units+1+16*k+200<_;lia⟩
theorem wj{A:Around}{C:Addr}{us:List Value}{kw:List (Str×Value)}:(A.under (.builtin "type.__call__" ⟨.ref C::us,kw⟩)).depth=A.depth+1:=by first|rfl|simp[Around.under,Code.weight,Code.isCreation,Code.isGuard,Code.isCaller,Code.frames,Code.isFrame,guardIds]
theorem wg{A:Around}{C:Addr}{us:List Value}{kw:List (Str×Value)}:(A.under (.builtin "type.__call__" ⟨.ref C::us,kw⟩)).units=A.units+1:=by first|rfl|simp[Around.under,Code.cUnits,Code.frames,Code.isFrame]
theorem cy.make{k:Nat}{A:Around}(r:cy (k+1) A)(C:Addr)(us:List Value)(kw:List (Str×Value)):cy k (A.under (.builtin "type.__call__" ⟨.ref C::us,kw⟩)):=
 ⟨r.hd,by have:=r.dp;rw[wj];lia,by have:=r.un;rw[wg];lia⟩
theorem cy.depth{k:Nat}{A:Around}(r:cy k A):A.depth<recursionLimit:=by have:=r.dp;lia
theorem cy.units{k:Nat}{A:Around}(r:cy k A):A.units+64<cLine:=by have:=r.un;lia
def EL:TA:=fun _ H Q=>Q [] H
def ET(ta:TE)(tr:TA):TA:=fun σ H Q=>ta σ H fun x H1=>tr σ H1 fun xs H2=>Q (x::xs) H2
section
variable{X:Cx}{e:Expr}{es:List Expr}{te:TE}{t:TA}{pos:Pos}
theorem ag:PA X [] EL:=fun _ _ _ _ H Q I h=>Calls.spliced_nil ⟨[],H,I,.nil,h⟩
theorem aa(ha:PE X e te)(hr:PA X es t)(hs:starEach (e::es) X.env=(false,eval e X.env)::starEach es X.env:=by rfl):PA X (e::es) (ET te t):=by intro pos pins s σ H Q I h;rw[hs];show wpAny _ _ (spliced ((false,eval e X.env)::backTo pos (starEach es X.env))) _ _ s;refine Calls.spliced_cons (thn (ha pins s σ H _ I h) fun u s1 hPz=>?_);obtain⟨x,H1,I1,r1,q1⟩:=hPz;exact thn (hr pos pins s1 σ H1 _ I1 q1) fun us s2 hPz=>L2.ep3 hPz fun xs H2 I2 r2 q2=>⟨x::xs,H2,I2,.cons r1 r2,q2⟩
def FC(t:TA):TE:=fun σ H Q=>t σ H fun xs H1=>xs.length<=sizeLine/\∀p,H1 p=none->Q (.ref p) (upd H1 p (.tup xs))
def FI(t:TA):TE:=fun σ H Q=>t σ H fun xs H1=>xs.length<=sizeLine/\∀p,H1 p=none->Q (.ref p) (upd H1 p (.lst xs))
theorem aX{x1}(h:PA X es t):PE X (.Tuple es x1 pos) (FC t):=by intro pins s σ H Q I hq;refine wpAny_Tuple_spliced (thn (h pos pins s σ H _ I hq) fun us s1 ⟨xs,H1,I1,r,z,q⟩=>⟨by rw[<-r.length];exact z,?_⟩);have hf:H1 s1.heap.objs.size=none:=I1.hok.fresh (Gr _);refine⟨.ref s1.heap.objs.size,upd H1 s1.heap.objs.size (.tup xs),I1.laid (t':=s1.toks) (fun b u e=>Gi _ e) (Gr _) ?_,rfl,q _ hf⟩;exact⟨z,us,r,⟨_,GO _ rfl,rfl,_,rfl⟩⟩
theorem cA(h:PA X es t):PE X (.List es pos) (FI t):=by intro pins s σ H Q I hq;refine wpAny_List_spliced (thn (h pos pins s σ H _ I hq) fun us s1 ⟨xs,H1,I1,r,z,q⟩=>⟨by rw[<-r.length];exact z,?_⟩);have hf:H1 s1.heap.objs.size=none:=I1.hok.fresh (Gr _);refine⟨.ref s1.heap.objs.size,upd H1 s1.heap.objs.size (.lst xs),I1.laid (t':=s1.toks) (fun b u e=>Gi _ e) (Gr _) ?_,rfl,q _ hf⟩;exact⟨z,us,0,r,GO _ rfl⟩
end
noncomputable abbrev Sp:=List V->Hp->VK->XK->Prop
noncomputable abbrev CXT:=List Env->Hp->Shared->XK->Value->Shared->Prop
structure rp(P:Program)(w:World)(K:Frag)(mg:Str->Option Value)(base:Heap)(A:Around)(outer:List Env)(s:Shared)(H:Hp):Prop where
 frames:A.frames=some outer
 mod:Mod K mg base
 bs:∀b o,base.get? b=some o->s.heap.get? b=some o/\H b=none
 bsz:base.objs.size<=s.heap.objs.size
 funs:s.heap.FunFrames base outer
 frf:∀b∈frs outer,H b=none
 hok:HOk P w H s.heap
 bare:AllBare s.gens
def CE(outer:List Env)(P:Program)(w:World)(H:Hp)(s:Shared)(Q:VK)(u:Value)(s':Shared):Prop:=
 ∃v H',s'.os=s.os/\AllBare s'.gens/\Un (frs outer) [] H H' s.heap s'.heap/\HOk P w H' s'.heap/\RelV v u/\Q v H'
def CR(CX:CXT)(outer:List Env)(P:Program)(w:World)(H:Hp)(s:Shared)(Q:VK)(E:XK)(r:Result)(s':Shared):Prop:=
 match r with
 | .ok (.ret u)=>CE outer P w H s Q u s'
 | .ok _=>False
 | .error e=>CX outer H s E e s'
structure ir(P:Program)(w:World)(K:Frag)(mg:Str->Option Value)(base:Heap)(CX:CXT)(k:Nat)(f:Addr)(fd:FuncData)(ps:List Str)(sp:Sp):Prop where
 len:∀vs H Q E,sp vs H Q E->vs.length=ps.length
 run:∀(A:Around)(outer:List Env)(s:Shared)(H:Hp)(args:Args)(us:List Value)(vs:List V)(Q:VK)(E:XK),cy k A->rp P w K mg base A outer s H->BindsTo s fd args (ps.zip us)->Vals vs us->sp vs H Q E->
  codeAny (model P w) A (.call (.ref f) args) (CR CX outer P w H s Q E) s
theorem rp.make{P:Program}{w:World}{K:Frag}{mg:Str->Option Value}{base:Heap}{A:Around}{outer:List Env}{s:Shared}{H:Hp}(e:rp P w K mg base A outer s H)(C:Addr)(us:List Value)(kw:List (Str×Value)):
 rp P w K mg base (A.under (.builtin "type.__call__" ⟨.ref C::us,kw⟩)) outer s H:=⟨by first|exact e.frames|(simpa[Around.under,Code.envs,Code.isFrame,pushEnvs]using e.frames),e.mod,e.bs,e.bsz,e.funs,e.frf,e.hok,e.bare⟩
theorem rp.in1{P:Program}{w:World}{K:Frag}{mg:Str->Option Value}{base:Heap}{A:Around}{outer:List Env}{s:Shared}{H:Hp}(e:rp P w K mg base A outer s H):
 rp P w K mg base A.in1 outer s H:=⟨e.frames,e.mod,e.bs,e.bsz,e.funs,e.frf,e.hok,e.bare⟩
section
variable{X:Cx}{pins:List (Addr×Obj)}{σ:St}{H:Hp}{s s':Shared}
theorem Inv.env0(I:Inv X pins σ H s):rp X.prog X.w X.K X.mg X.base X.A X.stack s H:=
 ⟨I.ok.frames,I.ok.mod,I.bs,G0 I.ok.bsz I.sz,I.stack,I.stkFree,I.hok,I.bare⟩
theorem Inv.after{Q:VK}{u:Value}(I:Inv X pins σ H s)(h:CE X.stack X.prog X.w H s Q u s'):EP X pins σ Q u s':=by obtain⟨v,H',os,bare,un,hok,r,q⟩:=h;obtain⟨hh,g,d,t,os'⟩:=s';obtain rfl:os'=s.os:=os;exact⟨v,H',I.call (h':=hh) (g':=g) (d':=d) (t':=t) (ch:=[]) un hok bare (fun b z=>absurd z (by simp)),r,q⟩
end
def lX(sp:Sp)(dvs:List V)(E:XK)(t:TA):TE:=fun σ H Q=>t σ H fun vs H1=>sp (vs++dvs) H1 Q E
def zu(C:Addr)(sp:Sp)(dvs:List V)(E:XK)(t:TA):TE:=fun σ H Q=>t σ H fun vs H1=>∀x dx,H1 x=none->H1 dx=none->dx≠x->
 sp (.ref x::(vs++dvs)) (upd (upd H1 dx (.own x)) x (.ins C dx [])) (fun v H2=>v=.non/\Q (.ref x) H2) E
def Binds(K:Frag)(fd:FuncData)(ps:List Str)(ds:List Value):Prop:=
 ∀(s:Shared)(us:List Value),K.In s.heap->(us++ds).length=ps.length->BindsTo s fd ⟨us,[]⟩ (ps.zip (us++ds))
theorem Binds.all{K:Frag}{fd:FuncData}{ps:List Str}(h:∀us:List Value,us.length=ps.length->bindArgs fd ⟨us,[]⟩=pure (ps.zip us)):Binds K fd ps []:=fun s us _ hl=>by rw[GY]at hl ⊢;exact .of_eq (h us hl)
def Passes(CX:CXT)(X:Cx)(E:XK):Prop:=∀(pins:List (Addr×Obj))(σ:St)(H:Hp)(s:Shared)(e:Value)(s':Shared),Inv X pins σ H s->CX X.stack H s E e s'->X.xe e s'
section
variable{X:Cx}{CX:CXT}{k:Nat}{f C:Addr}{fd:FuncData}{ps:List Str}{sp:Sp}{dvs:List V}{ds:List Value}{E:XK}{x m:Str}{p pos apos:Pos}{e o:Expr}{es:List Expr}{ta:TE}{t:TA}
theorem sV{pins:List (Addr×Obj)}{σ:St}{H:Hp}{s:Shared}{Q:VK}{us:List Value}{vs:List V}(F:ir X.prog X.w X.K X.mg X.base CX k f fd ps sp)(hr:cy k X.A)(hb:Binds X.K fd ps ds)(hd:Vals dvs ds)(hx:Passes CX X E)
  (I:Inv X pins σ H s) (r:Vals vs us) (h:sp (vs++dvs) H Q E):wpAny (model X.prog X.w) X.A (call (.ref f) us) (EP X pins σ Q) X.xe s:=by
 have r2:Vals (vs++dvs) (us++ds):=r.append hd;have hl:(us++ds).length=ps.length:=by rw[<-r2.length];exact F.len _ _ _ _ h
 refine wpAny_call (codeAny_mono (F.run X.A X.stack s H ⟨us,[]⟩ (us++ds) (vs++dvs) Q E hr I.env0 (hb s us I.kIn hl) r2 h) fun r s' hq=>?_);cases r with
 |error e=>exact hx pins σ H s e s' I hq
 |ok fl=>
  cases fl with
  |ret u=>exact I.after hq
  |next=>exact False.elim hq
  |brk=>exact False.elim hq
  |cont=>exact False.elim hq
theorem tH(F:ir X.prog X.w X.K X.mg X.base CX k f fd ps sp)(hr:cy k X.A)(hg:Gl X x)(hm:X.mg x=some (.ref f))(hk:keepIn X.K (.ref f)=true)(hb:Binds X.K fd ps ds)(hd:Vals dvs ds)(hx:Passes CX X E)
  (ha:PA X (e::es) t) (hdb:(x==("__debug__":Str))=false:=by decide) (he:starEach (e::es) X.env=(false,eval e X.env)::starEach es X.env:=by rfl) (hpl:(backTo pos (starEach es X.env)).any (·.1)=false:=by rfl):
  PE X (.Call (.Name x p) (e::es) [] pos) (lX sp dvs E t):=by
 intro pins s σ H Q I h;refine wpAny_Call_Name_kw (jX I hg hm ?_ hdb);refine PySem.W.callWith_K (h₀:=X.base) I.ok.mod.kin hk (thn (ha pos pins s σ H _ I h) fun us s1 hPz=>L2.ep3 hPz fun vs H1 I1 r q=>⟨I1.kIn,?_⟩) he hpl;exact sV F hr hb hd hx I1 r q
structure Mk(K:Frag)(C f:Addr):Prop where
 makes:PySem.W.makesIn K C=true
 init:findIn K (.ref C) "__init__"=some (some (.ref f))
 fn:PySem.W.isFn K (.ref f)=true
 kp:keepIn K (.ref C)=true
theorem zA{pins:List (Addr×Obj)}{σ:St}{H:Hp}{s:Shared}{Q:VK}{us:List Value}{vs:List V}(M:Mk X.K C f)(F:ir X.prog X.w X.K X.mg X.base CX k f fd ps sp)(hr:cy (k+1) X.A)(hb:Binds X.K fd ps ds)(hd:Vals dvs ds)
  (hx:Passes CX X E) (I:Inv X pins σ H s) (r:Vals vs us)
  (h:∀x dx,H x=none->H dx=none->dx≠x->sp (.ref x::(vs++dvs)) (upd (upd H dx (.own x)) x (.ins C dx [])) (fun v H2=>v=.non/\Q (.ref x) H2) E):
  wpAny (model X.prog X.w) X.A (call (.ref C) us) (EP X pins σ Q) X.xe s:=by
 have hq:=h (s.heap.objs.size+1) s.heap.objs.size (I.hok.fresh (Nat.le_succ _)) (I.hok.fresh (Gr _)) (G5 (Nat.lt_succ_self _));have I2:=Inv.made (C:=C) I;have r2:Vals (V.ref (s.heap.objs.size+1)::(vs++dvs)) (Value.ref (s.heap.objs.size+1)::(us++ds)):=.cons rfl (r.append hd);have hl:(Value.ref (s.heap.objs.size+1)::us++ds).length=ps.length:=by have e:=r2.length;rw[F.len _ _ _ _ hq]at e;exact e.symm
 refine wpAny_call (Ac (f:=f) I.kIn M.makes M.init (beq_iff_eq.mp M.fn) (codeAny_mono (F.run _ X.stack _ _ ⟨Value.ref (s.heap.objs.size+1)::us,[]⟩ (Value.ref (s.heap.objs.size+1)::(us++ds)) _ _ E (hr.make C us []) (I2.env0.make C us []) (hb _ (Value.ref (s.heap.objs.size+1)::us) I2.kIn hl) r2 hq) fun r s' hq'=>?_));cases r with
 |error e=>exact hx pins σ _ _ e s' I2 hq'
 |ok fl=>
  cases fl with
  |ret u=>obtain⟨v,H',I3,rv,ev,q3⟩:=I2.after hq';subst ev;exact⟨rv,⟨V.ref (s.heap.objs.size+1),H',I3,rfl,q3⟩⟩
  |next=>exact False.elim hq'
  |brk=>exact False.elim hq'
  |cont=>exact False.elim hq'
theorem xl(M:Mk X.K C f)(F:ir X.prog X.w X.K X.mg X.base CX k f fd ps sp)(hr:cy (k+1) X.A)(hg:Gl X x)(hm:X.mg x=some (.ref C))(hb:Binds X.K fd ps ds)(hd:Vals dvs ds)(hx:Passes CX X E)
  (ha:PA X (e::es) t) (hdb:(x==("__debug__":Str))=false:=by decide) (he:starEach (e::es) X.env=(false,eval e X.env)::starEach es X.env:=by rfl) (hpl:(backTo pos (starEach es X.env)).any (·.1)=false:=by rfl):
  PE X (.Call (.Name x p) (e::es) [] pos) (zu C sp dvs E t):=by
 intro pins s σ H Q I h;refine wpAny_Call_Name_kw (jX I hg hm ?_ hdb);refine PySem.W.callWith_K (h₀:=X.base) I.ok.mod.kin M.kp (thn (ha pos pins s σ H _ I h) fun us s1 hPz=>L2.ep3 hPz fun vs H1 I1 r q=>⟨I1.kIn,?_⟩) he hpl;exact zA M F hr hb hd hx I1 r q
end
structure aA(N P:List Str)(sc:Scope):Prop where
 kind:sc.kind=.function
 co:sc.isCoroutine=false
 gen:sc.isGenerator=false
 nd:N.Nodup
 pre:N.take P.length=P
 par:∀x∈P,sc.names.lookup x=some .local\/sc.names.lookup x=some .cell
 nofree:∀y∈sc.names,y.2≠ .free
theorem sr{kindOf:Str->Option NameKind}{x:Str}:∀{binds:List (Str×Value)}{m:Str->Option Value},(∀v,(x,v)∉binds)->bindL kindOf binds m x=m x
 | [],_,_=>rfl
 |(n,v)::r,m,h=>by
  unfold bindL;rw[sr fun w hw=>h w (Gs _ hw)];split
  ·have:x≠n:=(by rintro rfl;exact h v Gy);simp[this]
  ·rfl
theorem sv{kindOf:Str->Option NameKind}{x:Str}:∀{binds:List (Str×Value)}{m:Str->Option Value},(∀v,(x,v)∉binds)->bindC kindOf binds m x=m x
 | [],_,_=>rfl
 |(n,v)::r,m,h=>by
  unfold bindC;rw[sv fun w hw=>h w (Gs _ hw)];split
  ·rfl
  ·have:x≠n:=(by rintro rfl;exact h v Gy);simp[this]
theorem su{kindOf:Str->Option NameKind}{x:Str}{v:Value}:∀{P:List Str}{vs:List Value}{i:Nat}{m:Str->Option Value},P.Nodup->P[i]?=some x->vs[i]?=some v->kindOf x=some .local->
  bindL kindOf (P.zip vs) m x=some v
 | [],_,_,_,_,h,_,_=>by simp at h
 |_::_,[],_,_,_,_,h,_=>by simp at h
 |p::P,w::vs,0,m,nd,h1,h2,hk=>by simp at h1 h2;subst h1;subst h2;show bindL kindOf ((p,w)::P.zip vs) m p=_;unfold bindL;rw[sr fun v hv=>(Hv.mp nd).1 (List.of_mem_zip hv).1,Gz hk];simp
 |p::P,w::vs,i+1,m,nd,h1,h2,hk=>by show bindL kindOf ((p,w)::P.zip vs) m x=_;unfold bindL;exact su (i:=i) (Hv.mp nd).2 (by simpa using h1) (by simpa using h2) hk
theorem sx{kindOf:Str->Option NameKind}{x:Str}{v:Value}:∀{P:List Str}{vs:List Value}{i:Nat}{m:Str->Option Value},P.Nodup->P[i]?=some x->vs[i]?=some v->kindOf x≠some .local->
  bindC kindOf (P.zip vs) m x=some v
 | [],_,_,_,_,h,_,_=>by simp at h
 |_::_,[],_,_,_,_,h,_=>by simp at h
 |p::P,w::vs,0,m,nd,h1,h2,hk=>by simp at h1 h2;subst h1;subst h2;show bindC kindOf ((p,w)::P.zip vs) m p=_;unfold bindC;rw[sv fun v hv=>(Hv.mp nd).1 (List.of_mem_zip hv).1,Gu hk];simp
 |p::P,w::vs,i+1,m,nd,h1,h2,hk=>by show bindC kindOf ((p,w)::P.zip vs) m x=_;unfold bindC;exact sx (i:=i) (Hv.mp nd).2 (by simpa using h1) (by simpa using h2) hk
noncomputable def start(N:List Str)(vs:List V):St:=vs.map some++List.replicate (N.length-vs.length) none
noncomputable def gZ(CX:CXT)(P:Program)(w:World)(K:Frag)(mg:Str->Option Value)(base:Heap)(N:List Str)(qual:Str)(scope:Scope)(f:Addr)(cd:Value)(A:Around)(outer:List Env)(s:Shared)(H:Hp)(E:XK):Cx where
 prog:=P
 w:=w
 K:=K
 mg:=mg
 base:=base
 A:=A.deeper (envOfC qual scope s.heap.objs.size f cd)
 N:=N
 s₀:=s
 H₀:=H
 env:=envOfC qual scope s.heap.objs.size f cd
 outer:=outer
 stack:=envOfC qual scope s.heap.objs.size f cd::outer
 ex:=[]
 calm:=true
 fn:=fun _=>true
 pn:=[]
 xe:=fun e s'=>wpAny (model P w) (A.deeper (envOfC qual scope s.heap.objs.size f cd)) (leaving (envOfC qual scope s.heap.objs.size f cd) e) (fun _ s''=>CX outer H s E e s'') (fun e' s''=>CX outer H s E e' s'') s'
theorem vy{sc:Scope}{n:Nat}{x:Str}(h:sc.names.lookup x=some .cell):∃c,(cellsFrom n sc.names []).lookup x=some c:=by have q:=PySem.W.cellsFrom_some sc.names n [] (.inl h);exact Option.isSome_iff_exists.mp q
theorem yF{CX:CXT}{P:Program}{w:World}{K:Frag}{mg:Str->Option Value}{base:Heap}{N ps:List Str}{qual:Str}{scope:Scope}{f:Addr}{cd:Value}{A:Around}{outer:List Env}{s s1:Shared}{H:Hp}{E:XK}{us:List Value}{vs:List V}
  (S:aA N ps scope) (hd:A.handled=none) (e0:rp P w K mg base A outer s H) (hl:vs.length=ps.length) (r:Vals vs us)
  (x:InCallC s s.heap.objs.size (bindL (envOfC qual scope s.heap.objs.size f cd).kindOf (ps.zip us) fun _=>none) (cellsFrom (s.heap.objs.size+1) scope.names []) (bindC (envOfC qual scope s.heap.objs.size f cd).kindOf (ps.zip us) fun _=>none) s1):
  Inv (gZ CX P w K mg base N qual scope f cd A outer s H E) [] (start N vs) H s1:=by
 have hpl:ps.length<=N.length:=by have:=congrArg List.length S.pre;rw[GR]at this;lia
 obtain⟨h1,tk,rfl,hk⟩:=x.done;have noA:∀b:Addr,b∉(gZ CX P w K mg base N qual scope f cd A outer s H E).ex:=fun b z=>absurd (show b∈([]:List Addr)from z) (by simp)
 refine⟨⟨e0.mod,S.kind,rfl,rfl,Gr _,fun y z c h1 h2=>?_,fun y hy=>?_,fun y c _ h=>?_,fun _=>hd,Around.frames_deeper e0.frames,.inr ⟨rfl,rfl⟩,fun b z=>absurd z (noA b),e0.bs,e0.bsz,fun b _ _=>noA b,fun b z=>absurd z (noA b),e0.funs,e0.frf⟩,
  rfl,e0.bare,Un.kept hk,⟨_,x.toInCall.ns,fun i y v h1 h2 h3=>?_⟩,fun y c h=>⟨_,x.cell y c h⟩,e0.hok.fresh (Gr _),fun y c h=>?_,fun p hp=>absurd (show p∈([]:List (Addr×Obj))from hp) (by simp),e0.hok.kept hk,?_⟩
 ·exact name_of_addr x.apart (PySem.mem_of_lookup h1) (PySem.mem_of_lookup h2)
 ·have hy:scope.names.lookup y=some .cell\/scope.names.lookup y=some .free:=hy;rcases hy with hy|hy
  ·exact vy hy
  ·exact absurd rfl (S.nofree _ (PySem.mem_of_lookup hy))
 ·exact HQ (x.above y c (PySem.mem_of_lookup h))
 ·have hi:i<vs.length:=by
   unfold start at h2;by_cases hi:i<vs.length
   ·exact hi
   ·rw[List.getElem?_append_right (by simpa using hi)]at h2;rw[List.getElem?_replicate]at h2;split at h2<;>cases h2
  have ha:vs[i]?=some v:=by
   unfold start at h2;rw[Ia (by simpa using hi),GX]at h2;cases e:vs[i]? with
   |none=>rw[e]at h2;cases h2
   |some a=>rw[e]at h2;cases h2;rfl
  obtain⟨u,hu,rv⟩:=r.get ha;have hp:ps[i]?=some y:=by rw[<-S.pre,List.getElem?_take_of_lt (by lia)];exact h1
  have ndP:ps.Nodup:=by rw[<-S.pre];exact S.nd.sublist (List.take_sublist _ _)
  refine⟨u,rv,?_⟩;rcases S.par y (Gp hp)with k|k
  ·exact .inl ⟨k,su ndP hp hu k⟩
  ·obtain⟨c,e⟩:=vy (n:=s.heap.objs.size+1) k;refine .inr ⟨.inl k,c,e,?_⟩;have q:=x.cell y c e;rw[sx ndP hp hu (by show scope.names.lookup y≠_;rw[k];decide)]at q;exact q
 ·exact e0.hok.fresh (HQ (x.above y c (PySem.mem_of_lookup h)))
 ·unfold start;show _=N.length;rw[Gn,Gh,List.length_replicate]
  lia
theorem vm{CX:CXT}{P:Program}{w:World}{K:Frag}{mg:Str->Option Value}{base:Heap}{k:Nat}{f:Addr}{name qual:Str}{params:Arguments}{body:List Stmt}{scope:Scope}{dV kV doc pm cdv ct oc:Value}{an od:Option Addr}
  {osl:Array (Option Value)} {N ps:List Str} {sp:Sp} (lk:K.lookup f=some ⟨oc,od,.func (fnOf name qual params body scope dV kV doc pm an cdv ct),osl⟩) (hcd:codeIn K cdv qual=true) (S:aA N ps scope)
  (len:∀vs H Q E,sp vs H Q E->vs.length=ps.length)
  (hbody:∀(A:Around)(outer:List Env)(s:Shared)(H:Hp)(vs:List V)(Q:VK)(E:XK),cy k (A.deeper (envOfC qual scope s.heap.objs.size f cdv))->sp vs H Q E->
   ∃t,PSs (gZ CX P w K mg base N qual scope f cdv A outer s H E) body t/\t {nx:=fun _ H'=>Q .non H',rt:=Q} (start N vs) H):
  ir P w K mg base CX (k+1) f (fnOf name qual params body scope dV kV doc pm an cdv ct) ps sp:=by
 refine⟨len,fun A outer s H args us vs Q E hr e0 hb r hsp=>?_⟩;have hl:=len _ _ _ _ hsp;have KX:K.In s.heap:=e0.mod.kin.keeps fun b o e=>(e0.bs b o e).1;have lim:s.heap.NoLimit:=e0.mod.nolimit.keeps fun b o e=>(e0.bs b o e).1;have hkind:∀y∈ps.zip us,scope.names.lookup y.1=some .local\/(scope.names.lookup y.1=some .cell/\((cellsFrom (s.heap.objs.size+1) scope.names []).lookup y.1).isSome=true):=fun⟨n,v⟩ hy=>by
  rcases S.par n (List.of_mem_zip hy).1 with q|q
  ·exact .inl q
  ·exact .inr ⟨q,PySem.W.cellsFrom_some _ _ _ (.inl q)⟩
 refine codeAny_call_function hr.depth (KX _ _ lk) rfl S.co S.gen rfl (PySem.W.codeRec_of KX hcd) (hb _ _ _ _ ?_);refine wpAny_newFunctionEnv_cells S.kind hkind fun env he s1 x=>?_;subst he;refine⟨lim.keeps x.toInCall.keep,codeAny_func ?_⟩;obtain⟨t,ht,hq⟩:=hbody A outer s H vs Q E (hr.deeper _) hsp;have I:Inv (gZ CX P w K mg base N qual scope f cdv A outer s H E) [] (start N vs) H s1:=yF S hr.hd e0 hl r x;refine Ha (ht [] s1 (start N vs) H _ I hq) (fun fl s' hs=>?_) fun e s' hs=>hs;have fin:∀{σ':St}{H':Hp}{v:V}{u:Value},Inv (gZ CX P w K mg base N qual scope f cdv A outer s H E) [] σ' H' s'->RelV v u->Q v H'->CE outer P w H s Q u s':=
  fun {σ' H' v u} J rv q=>⟨v,H',J.os,J.bare,J.base,J.hok,rv,q⟩
 cases fl with
 |ret u=>obtain⟨v,σ',H',J,rv,q⟩:=hs;exact fin J rv q
 |next=>obtain⟨σ',H',J,q⟩:=hs;exact fin (v:=V.non) (u:=Value.none) J rfl q
 |brk=>obtain⟨_,_,_,q⟩:=hs;exact False.elim q
 |cont=>obtain⟨_,_,_,q⟩:=hs;exact False.elim q
section
variable{X:Cx}{x:Str}{p pos:Pos}{e:Expr}{es:List Expr}{t:TA}{id T:String}{r:List V->Hp->VK->Prop}
def tCB(r:List V->Hp->VK->Prop)(t:TA):TE:=fun σ H Q=>t σ H fun vs H1=>r vs H1 Q
theorem aV(hc:fE X (.builtin id) r)(hg:Gl X x)(hm:X.mg x=none)(hv:bootBuiltins x=some (.builtin id))(ha:PA X (e::es) t)(hn:x≠"__name__":=by decide)(hdb:(x==("__debug__":Str))=false:=by decide)
  (he:starEach (e::es) X.env=(false,eval e X.env)::starEach es X.env:=by rfl) (hpl:(backTo pos (starEach es X.env)).any (·.1)=false:=by rfl):PE X (.Call (.Name x p) (e::es) [] pos) (tCB r t):=by
 intro pins s σ H Q I h;refine wpAny_Call_Name_kw (lJ I hg hm hv ?_ hn hdb);exact PyProof.Rows.callWith_builtin1 (thn (ha pos pins s σ H _ I h) fun us s1 hPz=>L2.ep3 hPz fun vs H1 I1 r1 q1=>hc pins s1 σ H1 vs us Q I1 r1 q1) he hpl
theorem bO(hc:fE X (.type T) r)(hg:Gl X x)(hm:X.mg x=none)(hv:bootBuiltins x=some (.type T))(ha:PA X (e::es) t)(hn:x≠"__name__":=by decide)(hdb:(x==("__debug__":Str))=false:=by decide)
  (he:starEach (e::es) X.env=(false,eval e X.env)::starEach es X.env:=by rfl) (hpl:(backTo pos (starEach es X.env)).any (·.1)=false:=by rfl):PE X (.Call (.Name x p) (e::es) [] pos) (tCB r t):=by
 intro pins s σ H Q I h;refine wpAny_Call_Name_kw (lJ I hg hm hv ?_ hn hdb);exact PyProof.Rows.callWith_type1 (thn (ha pos pins s σ H _ I h) fun us s1 hPz=>L2.ep3 hPz fun vs H1 I1 r1 q1=>hc pins s1 σ H1 vs us Q I1 r1 q1) he hpl
end
end L2
namespace HT
open PySem PyProof.Rows
section
variable{prog:Program}{w:World}{A:Around}{E:Value->Shared->Prop}{s:Shared}
theorem Cy{t b:Addr}{vs ws:List Value}{Q:Value->Shared->Prop}(ht:IsTup s.heap t vs.toArray)(hb:IsTup s.heap b ws.toArray)(hv:vs≠[])
  (h1:ws=[]->Q (.ref t) s) (h2:ws≠[]->Q (.ref s.heap.objs.size) {s with heap:=s.heap.push {cls:=.type "tuple",data:=.seq (vs++ws).toArray}})
  (hsz:vs.length+ws.length<=sizeLine):wpAny (model prog w) A (binaryOp .Add (.ref t) (.ref b)) Q E s:=by
 obtain⟨⟨cls,dd,data,sl⟩,ho,hc,n,hd⟩:=id ht;obtain⟨⟨cls2,dd2,data2,sl2⟩,ho2,hc2,n2,hd2⟩:=id hb;simp only at hc hd hc2 hd2;subst hc hd hc2 hd2;have e:vs.toArray++ws.toArray=(vs++ws).toArray:=by simp
 by_cases hw:ws=[]
 ·exact concat_meets ⟨_,ho,rfl⟩ ⟨_,ho2,rfl⟩ noFill_tuple_add seq_tuple_add PySem.F.slot_tuple_add PySem.F.entry_tuple_add (PySem.F.args_tuple_add_2 _ _)
   (tuple_addW1 t b vs.toArray ws.toArray n n2 dd dd2 sl sl2 (by simpa using hv) (by simp[hw])) ⟨ho,ho2,h1 hw⟩
 ·refine concat_meets ⟨_,ho,rfl⟩ ⟨_,ho2,rfl⟩ noFill_tuple_add seq_tuple_add PySem.F.slot_tuple_add PySem.F.entry_tuple_add (PySem.F.args_tuple_add_2 _ _)
   (tuple_addW2 t b vs.toArray ws.toArray n n2 dd dd2 sl sl2 (by simpa using hv) (by simpa using hw) (by rw[Gq,Gq];exact hsz)) ⟨ho,ho2,?_⟩
  rw[e];exact h2 hw
noncomputable def sIx(n d:Nat):Option Int->Nat
 |none=>d
 |some v=>if v<0 then(v+(n:Int)).toNat else min v.toNat n
theorem pX(n d:Nat):sIx n d none=d:=rfl
theorem sU(n d k:Nat):sIx n d (some (k:Int))=min k n:=by show(if(k:Int)<0 then((k:Int)+(n:Int)).toNat else min (k:Int).toNat n)=min k n;rw[Gu (by lia),Hg]
theorem Dt(n d:Nat)(hd:d<=n)(o:Option Int):sIx n d o<=n:=by
 cases o with
 |none=>exact hd
 |some v=>
  show(if v<0 then(v+(n:Int)).toNat else min v.toNat n)<=n;by_cases hv:v<0
  ·rw[Gz hv];lia
  ·rw[Gu hv];exact Nat.min_le_right _ _
theorem xP(v:Int)(n d:Nat):(if v<0 then max (v+(n:Int)) 0 else min v (n:Int))=((sIx n d (some v):Nat):Int):=by
 show(if v<0 then max (v+(n:Int)) 0 else min v (n:Int))=(((if v<0 then(v+(n:Int)).toNat else min v.toNat n):Nat):Int);by_cases hv:v<0
 ·simp only[Gz hv];lia
 ·simp only[Gu hv];lia
theorem wN(lo hi:Option Int)(n:Nat):Builtin.Slice.sliceAdjust lo hi 1 (n:Int)=(((sIx n 0 lo:Nat):Int),((sIx n n hi:Nat):Int)):=by
 have h1:¬((1:Int)<0):=by lia
 unfold Builtin.Slice.sliceAdjust;simp only[h1,if_false];refine Prod.ext ?_ ?_
 ·cases lo with
  |none=>rfl
  |some v=>exact xP v n 0
 ·cases hi with
  |none=>rfl
  |some v=>exact xP v n n
theorem vU(i j:Nat):Builtin.Slice.slicePlaces (i:Int) (j:Int) 1=j-i:=by
 unfold Builtin.Slice.slicePlaces;have h1:(1:Int)>0:=by lia
 simp only[h1,if_true,Int.ediv_one];split<;>lia
theorem pO{v:Value}{o:Option Int}{Q:Option Int->Shared->Prop}(p:IsPart v o)(h:Q o s):wpAny (model prog w) A (Builtin.Slice.slicePartIndex v) Q E s:=by
 cases p with
 |none=>exact slicePart_none h
 |int i t=>exact slicePart_int h
theorem iD{sl:Addr}{vl vu:Value}{lo hi:Option Int}{n:Nat}{Q:Int×Int×Nat->Shared->Prop}(hs:s.heap.IsSliceOf sl vl vu .none)(pl:IsPart vl lo)(pu:IsPart vu hi)
  (h:Q (((sIx n 0 lo:Nat):Int),1,sIx n n hi-sIx n 0 lo) s):wpAny (model prog w) A (Builtin.Slice.sliceApplied (.ref sl) (pure (n:Int))) Q E s:=by
 obtain⟨os,hos,hcs,hds⟩:=id hs;unfold Builtin.Slice.sliceApplied Builtin.Slice.sliceFields;refine Gg (Gg (wpAny_field hos hds (x:=vl) rfl (Gg (wpAny_field hos hds (x:=vu) rfl (Gg (wpAny_field hos hds (x:=.none) rfl (Gj ?_)))))));refine Gg (slicePart_none ?_);show wpAny _ _ (if((1:Int)==0)=true then _ else _) _ _ s;rw[Gu (by decide)];refine Gg (pO pl (Gg (pO pu (Gg (Gj ?_)))));show wpAny _ _ (match Builtin.Slice.sliceAdjust lo hi 1 (n:Int)with|(lo,hi)=>pure (lo,(1:Int),Builtin.Slice.slicePlaces lo hi 1)) _ _ s;rw[wN lo hi n];show wpAny _ _ (pure (((sIx n 0 lo:Nat):Int),(1:Int),Builtin.Slice.slicePlaces ((sIx n 0 lo:Nat):Int) ((sIx n n hi:Nat):Int) 1)) _ _ s;rw[vU];exact Gj h
theorem zJ(xs:Array Value)(i k:Nat):((List.range k).filterMap fun(m:Nat)=>xs[((i:Int)+(m:Int)*1).toNat]?).toArray=((xs.toList.drop i).take k).toArray:=by
 have e:(fun(m:Nat)=>xs[((i:Int)+(m:Int)*1).toNat]?)=fun m=>xs[i+m]? :=by
  funext m;have:((i:Int)+(m:Int)*1).toNat=i+m:=by lia
  rw[this]
 rw[e];have:=pick_run xs i k;rw[List.filterMap_map]at this;have e2:((fun x=>xs[x]?) ∘ fun x=>i+x)=fun m=>xs[i+m]? :=rfl;rw[e2]at this;rw[this]
theorem mV{t sl:Addr}{items:Array Value}{vl vu:Value}{lo hi:Option Int}{Q:Value->Shared->Prop}(ht:IsTup s.heap t items)(hs:s.heap.IsSliceOf sl vl vu .none)(pl:IsPart vl lo)(pu:IsPart vu hi)
  (hw:¬(sIx items.size 0 lo=0/\sIx items.size items.size hi=items.size))
  (h:Q (.ref s.heap.objs.size) {s with heap:=s.heap.push {cls:=.type "tuple",data:=.seq ((items.toList.drop (sIx items.size 0 lo)).take (sIx items.size items.size hi-sIx items.size 0 lo)).toArray}})
  (hsz:items.size<=sizeLine):wpAny (model prog w) A (getItem (.ref t) (.ref sl)) Q E s:=by
 have htake:sizeOk (.seq ((items.toList.drop (sIx items.size 0 lo)).take (sIx items.size items.size hi-sIx items.size 0 lo)).toArray):=by show((items.toList.drop (sIx items.size 0 lo)).take (sIx items.size items.size hi-sIx items.size 0 lo)).toArray.size<=sizeLine;rw[Gq,GR,List.length_drop,Hh];omega
 have hj:sIx items.size items.size hi<=items.size:=Dt _ _ (Gr _) hi;obtain⟨os,hos,hcs,hds⟩:=id hs;have hTs:s.TypeIs (.ref sl) "slice":=⟨os,hos,hcs⟩;unfold getItem
 try with_reducible refine Hr ?_
 first|refine Gg (Gj ?_)|skip
 refine Gg (wpAny_sequenceKey ht.typeIs (by decide) ?_);refine Gg (HV (name:=Str.ofString "__getitem__") ht.typeIs HE (HD HE ht.typeIs entry_tuple_getitem ?_ (args_tuple_getitem _ _)));show wpAny _ _ (Builtin.Tuple.tupleItemsOf (.ref t)>>= _) _ _ s;refine Gg (tupleItemsOf_ ht ?_);refine Gg (wpAny_typeOf hTs ?_);rw[Gz (by decide)];refine Gg (iD hs pl pu ?_);have hno:¬((((sIx items.size 0 lo:Nat):Int)==0&&(1:Int)==1&&(sIx items.size items.size hi-sIx items.size 0 lo)==items.size)=true):=by intro q;rw[HY,HY]at q;have q1:((sIx items.size 0 lo:Nat):Int)=0:=eq_of_beq q.1.1;have q2:sIx items.size items.size hi-sIx items.size 0 lo=items.size:=eq_of_beq q.2;exact hw ⟨by omega,by omega⟩
 show wpAny _ _ (if(((sIx items.size 0 lo:Nat):Int)==0&&(1:Int)==1&&(sIx items.size items.size hi-sIx items.size 0 lo)==items.size)=true then _ else _) _ _ s;rw[Gu hno,zJ]
 first
  |exact Gg (m:=Builtin.Tuple.tupleExact _) (Hn (Gj ⟨_,rfl,Gj h⟩) htake)
  |exact Gg (m:=Builtin.Tuple.tupleExact _) (Hn (Gg (Gj (Gj ⟨_,rfl,Gj h⟩))) htake)
  |exact Gg (Gg (m:=Builtin.Tuple.tupleExact _) (Hn (Gj (Gj ⟨_,rfl,Gj h⟩)) htake))
  |exact Gg (Gg (m:=Builtin.Tuple.tupleExact _) (Hn (Gj ⟨_,rfl,Gj h⟩) htake))
end
end HT
namespace L2
open PySem PySem.Spec PyProof.Rows
noncomputable abbrev TO:=St->Hp->(Option Int->Hp->Prop)->Prop
def PO(X:Cx)(e:Option Expr)(t:TO):Prop:=
 ∀(pins:List (Addr×Obj))(s:Shared)(σ:St)(H:Hp)(Q:Option Int->Hp->Prop),Inv X pins σ H s->t σ H Q->
  wpAny (model X.prog X.w) X.A (evalPart e X.env) (fun u s'=>∃o H',Inv X pins σ H' s'/\IsPart u o/\Q o H') X.xe s
noncomputable def Bp:TO:=fun _ H Q=>Q none H
noncomputable def EJ(t:TE):TO:=fun σ H Q=>t σ H fun x H1=>∃i,x=.int i/\Q (some i) H1
theorem intsAre_of{ns:List Int}:∀{us:List Value},Vals (ns.map V.int) us->IntsAre us ns:=by
 induction ns with
 |nil=>intro us r;rw[List.map_nil]at r;cases r;exact .nil
 |cons n ns ih=>
  intro us r;rw[GC]at r;cases r with
  |cons r1 r2=>obtain⟨t,e⟩:=r1;subst e;exact .cons n t (ih r2)
section
variable{X:Cx}{e:Expr}{te:TE}{lo hi:Option Expr}{tl th:TO}{pos p2:Pos}
theorem iT:PO X none Bp:=by intro pins s σ H Q I h;rw[evalPart_none];exact Gj ⟨none,H,I,.none,h⟩
theorem iS(h:PE X e te):PO X (some e) (EJ te):=by intro pins s σ H Q I hw;rw[evalPart_some];refine thn (h pins s σ H _ I hw) fun u s1 hPz=>?_;obtain⟨x,H1,I1,r1,q1⟩:=hPz;obtain⟨i,rfl,q⟩:=q1;obtain⟨t,rfl⟩:=r1;exact⟨some i,H1,I1,.int i t,q⟩
def SlR(X:Cx)(r:V->Option Int->Option Int->Hp->VK->Prop):Prop:=
 ∀(pins:List (Addr×Obj))(s:Shared)(σ:St)(H:Hp)(x:V)(v vl vu:Value)(lo hi:Option Int)(sl:Addr)(Q:VK),Inv X pins σ H s->RelV x v->s.heap.IsSliceOf sl vl vu .none->IsPart vl lo->IsPart vu hi->r x lo hi H Q->
  ∃T id,typeLookup (.type T) "__getitem__"=pure (some (.builtin id))/\s.TypeIs v T/\wpAny (model X.prog X.w) X.A (getItem v (.ref sl)) (EP X pins σ Q) X.xe s
def tSl(r:V->Option Int->Option Int->Hp->VK->Prop)(te:TE)(tl th:TO):TE:=fun σ H Q=>te σ H fun x H1=>tl σ H1 fun l H2=>th σ H2 fun u H3=>r x l u H3 Q
theorem gT{r:V->Option Int->Option Int->Hp->VK->Prop}(hr:SlR X r)(he:PE X e te)(hl:PO X lo tl)(hu:PO X hi th):PE X (.Subscript e (.Slice lo hi none p2) pos) (tSl r te tl th):=by intro pins s σ H Q I h;refine Subscript_ (thn (he pins s σ H _ I h) fun v s1 hPz=>?_);obtain⟨x,H1,I1,r1,q1⟩:=hPz;refine wpAny_Slice (thn (hl pins s1 σ H1 _ I1 q1) fun vl s2 hPz=>L2.ep3 hPz fun l H2 I2 pl q2=>thn (hu pins s2 σ H2 _ I2 q2) fun vu s3 hPz=>?_);obtain⟨u,H3,I3,pu,q3⟩:=hPz;rw[evalPart_none];refine Gj ?_;have I4:Inv X pins σ H3 {s3 with heap:=s3.heap.push {cls:=.type "slice",data:=.fields #[vl,vu,.none]}}:=I3.kept (t':=s3.toks) fun b ob q=>Gi _ q;obtain⟨T,id,hT,ht,hg⟩:=hr pins {s3 with heap:=s3.heap.push {cls:=.type "slice",data:=.fields #[vl,vu,.none]}} σ H3 x v vl vu l u s3.heap.objs.size Q I4 r1 (Heap.IsSliceOf.new ..) pl pu q3;show wpAny (model X.prog X.w) X.A (subscriptTail e (.Slice lo hi none p2) v (.ref s3.heap.objs.size)) (EP X pins σ Q) X.xe {s3 with heap:=s3.heap.push {cls:=.type "slice",data:=.fields #[vl,vu,.none]}};exact tail_any (ops:=[.ref s3.heap.objs.size,v]) ht hT hg (by with_unfolding_all rfl)
noncomputable def jO(xs:List V)(lo hi:Option Int):List V:=(xs.drop (HT.sIx xs.length 0 lo)).take (HT.sIx xs.length xs.length hi-HT.sIx xs.length 0 lo)
theorem oG(xs:List V)(lo hi:Option Int):(jO xs lo hi).length<=xs.length:=by unfold jO;rw[GR,List.length_drop];omega
def FR(K:Frag):V->Option Int->Option Int->Hp->VK->Prop:=fun x lo hi H Q=>∃a xs,x=.ref a/\SqT K H a xs/\
 ¬(HT.sIx xs.length 0 lo=0/\HT.sIx xs.length xs.length hi=xs.length)/\∀p,H p=none->Q (.ref p) (upd H p (.tup (jO xs lo hi)))
theorem Dq:SlR X (FR X.K):=by
 intro pins s σ H x v vl vu lo hi sl Q I rx hs pl pu h;obtain⟨a,xs,rfl,hx,hw,q⟩:=h;cases rx;obtain⟨its,r,ht,hz⟩:=I.tuple hx;have hlen:its.toArray.size=xs.length:=by rw[Gq];exact r.length.symm
 refine⟨"tuple",_,HE.lookup,ht.typeIs,?_⟩;refine HT.mV ht hs pl pu (by rw[hlen];exact hw) ?_ (by rw[hlen];exact hz);rw[hlen];refine⟨.ref s.heap.objs.size,_,I.laid (t':=s.toks) (o:=.tup (jO xs lo hi)) (fun b ob q=>Gi _ q) (Gr _) ?_,rfl,q _ (I.hok.fresh (Gr _))⟩;exact⟨G0 (oG xs lo hi) hz,_,(r.drop (HT.sIx xs.length 0 lo)).take (HT.sIx xs.length xs.length hi-HT.sIx xs.length 0 lo),IsTup.new _ _⟩
noncomputable def E7(K:Frag):R2:=fun x y H Q=>∃a b xs ys,x=.ref a/\y=.ref b/\SqT K H a xs/\SqT K H b ys/\xs≠[]/\xs.length+ys.length<=sizeLine/\
 (ys=[]->Q (.ref a) H)/\(ys≠[]->∀p,H p=none->Q (.ref p) (upd H p (.tup (xs++ys))))
theorem Vals.nil_iff{xs:List V}{us:List Value}(r:Vals xs us):us=[]<->xs=[]:=by
 cases r with
 |nil=>simp
 |cons _ _=>simp
theorem BR:OpR X (binaryOp .Add) (E7 X.K):=by intro pins s σ H x y v u Q I rx ry h;obtain⟨a,b,xs,ys,rfl,rfl,ha,hb,hx,hz,q1,q2⟩:=h;cases rx;cases ry;obtain⟨its,r1,p1,_⟩:=I.tuple ha;obtain⟨its2,r2,p2,_⟩:=I.tuple hb;refine HT.Cy p1 p2 (fun z=>hx (r1.nil_iff.mp z)) (fun z=>⟨.ref a,H,I,rfl,q1 (r2.nil_iff.mp z)⟩) (fun z=>?_) (by rw[<-r1.length,<-r2.length];exact hz);refine⟨.ref s.heap.objs.size,_,I.laid (t':=s.toks) (o:=.tup (xs++ys)) (fun b ob q=>Gi _ q) (Gr _) ?_,rfl,q2 (fun w=>z (r2.nil_iff.mpr w)) _ (I.hok.fresh (Gr _))⟩;exact⟨by rw[Gn];exact hz,_,r1.append r2,IsTup.new _ _⟩
end
noncomputable def ixN(n:Nat)(i:Int):Option Nat:=if 0<=i then(if i<n then some i.toNat else none)else if-(n:Int)<=i then some (i+n).toNat else none
noncomputable def atI{α:Type}(xs:List α)(i:Int):Option α:=(ixN xs.length i).bind fun j=>xs[j]?
theorem xx{n:Nat}{i:Int}{j:Nat}(h:ixN n i=some j):seqIndex? i n=some j/\j<n/\ -(n:Int)<=i/\i<n:=by
 unfold ixN at h;by_cases h0:0<=i
 ·rw[Gz h0]at h;by_cases h1:i<n
  ·rw[Gz h1]at h;have e:i.toNat=j:=G2 h;exact⟨by rw[seqIndex_of h0 h1,e],by omega,by lia,h1⟩
  ·rw[Gu h1]at h;cases h
 ·rw[Gu h0]at h;by_cases h1: -(n:Int)<=i
  ·rw[Gz h1]at h;have e:(i+n).toNat=j:=G2 h;exact⟨by rw[seqIndex_neg (by lia) h1,e],by lia,h1,by lia⟩
  ·rw[Gu h1]at h;cases h
theorem uq{α:Type}{xs:List α}{i:Int}{v:α}(h:atI xs i=some v):∃j,seqIndex? i xs.length=some j/\xs[j]?=some v/\j<xs.length/\ -(xs.length:Int)<=i/\i<xs.length:=by
 unfold atI at h;cases e:ixN xs.length i with
 |none=>rw[e]at h;cases h
 |some j=>rw[e]at h;obtain⟨h1,h2,h3,h4⟩:=xx e;exact⟨j,h1,h,h2,h3,h4⟩
theorem au{α:Type}{xs:List α}{j:Nat}{v:α}(h:xs[j]?=some v):atI xs (j:Int)=some v:=by
 have hj:j<xs.length:=(GA.mp h).1;have e:ixN xs.length (j:Int)=some j:=by unfold ixN;rw[Gz (by lia),Gz (by lia)];simp
 unfold atI;rw[e];exact h
def CB(b:Expr):Prop:=∀o i,subscripted b false o i=operate [o,i] (getItem o i)
def IxR(X:Cx)(r:R2):Prop:=
 ∀(value slice:Expr)(pins:List (Addr×Obj))(s:Shared)(σ:St)(H:Hp)(x y:V)(v u:Value)(Q:VK),Inv X pins σ H s->RelV x v->RelV y u->r x y H Q->
  subscripted slice false v u=operate [v,u] (getItem v u)->wpAny (model X.prog X.w) X.A (subscriptTail value slice v u) (EP X pins σ Q) X.xe s
def MtR(X:Cx)(id:String)(r:V->List V->Hp->VK->Prop):Prop:=
 ∀(pins:List (Addr×Obj))(s:Shared)(σ:St)(H:Hp)(x:V)(xs:List V)(v:Value)(us:List Value)(Q:VK),Inv X pins σ H s->RelV x v->Vals xs us->r x xs H Q->
  wpAny (model X.prog X.w) X.A (call (.builtin id) (v::us)) (EP X pins σ Q) X.xe s
section
variable{X:Cx}{a b:Expr}{ta tb:TE}{pos:Pos}
theorem aH{r:R2}(hr:IxR X r)(ha:PE X a ta)(hb:PE X b tb)(hs:CB b):PE X (.Subscript a b pos) (tOp r ta tb):=by intro pins s σ H Q I h;exact Subscript_ (Es ha hb I h fun v u s2 x y H2 I2 rx ry q=>hr a b pins s2 σ H2 x y v u Q I2 rx ry q (hs _ _))
noncomputable def E3(K:Frag):R2:=fun x y H Q=>∃p xs i v,x=.ref p/\y=.int i/\SqL K H p xs/\atI xs i=some v/\Q v H
noncomputable def E2(K:Frag):R2:=fun x y H Q=>∃p xs i v,x=.ref p/\y=.int i/\SqT K H p xs/\atI xs i=some v/\Q v H
noncomputable def FX:R2:=fun x y H Q=>∃z i c,x=.str z/\y=.int i/\z.length<=sizeLine/\atI z.cps.toList i=some c/\Q (.str ⟨#[c]⟩) H
theorem bD:IxR X (E3 X.K):=by
 intro value slice pins s σ H x y v u Q I rx ry h hs;obtain⟨p,xs,i,z,rfl,rfl,hq,he,q⟩:=h;cases rx;obtain⟨t,rfl⟩:=ry;obtain⟨its,r,pl,hz⟩:=I.list hq;obtain⟨j,h1,h2,h3,h4,h5⟩:=uq he;obtain⟨w,ew,rw'⟩:=r.get h2;have hl:=r.length;have hn:=ql;have fin:EP X pins σ Q w s:=⟨z,H,I,rw',q⟩;by_cases h0:0<=i
 ·have hj:i.toNat=j:=by
   rw[seqIndex_of h0 h5]at h1;exact G2 h1
  exact item_listR pl.isList h0 (by lia) (by rw[hj];simpa using ew) fin hs
 ·have hj:(i+(its.toArray.size:Int)).toNat=j:=by
   rw[seqIndex_neg (by lia) h4]at h1;rw[Gq,<-hl];exact G2 h1
  exact subscriptTail_builtinR (x:=w) pl.isList.typeIs slot_list_getitem.lookup
   (wpAny_getItem_list_neg (Q:=fun r s'=>r=w/\EP X pins σ Q r s') pl.isList (by omega) (by rw[Gq]<;>lia) (by lia) (by rw[hj];simpa using ew) ⟨rfl,fin⟩) hs
theorem aL:IxR X (E2 X.K):=by
 intro value slice pins s σ H x y v u Q I rx ry h hs;obtain⟨p,xs,i,z,rfl,rfl,hq,he,q⟩:=h;cases rx;obtain⟨t,rfl⟩:=ry;obtain⟨its,r,pl,hz⟩:=I.tuple hq;obtain⟨j,h1,h2,h3,h4,h5⟩:=uq he;obtain⟨w,ew,rw'⟩:=r.get h2;have hl:=r.length;have hn:=ql;have fin:EP X pins σ Q w s:=⟨z,H,I,rw',q⟩;exact subscriptTail_builtinR (x:=w) pl.typeIs slot_tuple_getitem.lookup
  (getItem_tuple (j:=j) (Q:=fun r s'=>r=w/\EP X pins σ Q r s') pl (by omega) (by omega) (by rw[Gq,<-hl];exact h1) (by simpa using ew) ⟨rfl,fin⟩) hs
theorem D2:IxR X FX:=by
 intro value slice pins s σ H x y v u Q I rx ry h hs;obtain⟨z,i,c,rfl,rfl,hz,he,q⟩:=h;obtain⟨t,rfl⟩:=rx;obtain⟨t',rfl⟩:=ry;obtain⟨j,h1,h2,h3,h4,h5⟩:=uq he;have hl:z.cps.toList.length=z.length:=by simp[Str.length]
 rw[hl]at h1 h4 h5;have hn:=ql
 exact tail_any (typeIs_str s z t) slot_str_getitem.lookup (getItem_str (c:=c) (by
  have e1:decide (i< -(2^63:Int))=false:=GZ (by lia);have e2:decide (i>=2^63)=false:=GZ (by lia)
  rw[e1,e2,Bool.or_false]) (by rw[h1];simpa using h2) ⟨.str ⟨#[c]⟩,H,I.tok _,⟨_,rfl⟩,q⟩) hs
theorem we(its:List Value)(n j:Nat)(u:Value):Obj.mapSeq (·.setIfInBounds j u) {cls:=.type "list",data:=.seq its.toArray n}={cls:=.type "list",data:=.seq (its.set j u).toArray n}:=by simp[Obj.mapSeq]
theorem Inv.lst{pins:List (Addr×Obj)}{σ:St}{H:Hp}{s:Shared}{p:Addr}{xs:List V}(I:Inv X pins σ H s)(h:H p=some (.lst xs)):
  ∃(its:List Value)(n:Nat),Vals xs its/\s.heap.get? p=some {cls:=.type "list",data:=.seq its.toArray n}/\xs.length<=sizeLine:=by
 obtain⟨z,its,n,r,e⟩:=I.hok p _ h;exact⟨its,n,r,e,z⟩
theorem Inv.lstUpd{pins:List (Addr×Obj)}{σ:St}{H:Hp}{s:Shared}{p:Addr}{xs ys:List V}{its its':List Value}{n n':Nat}{f:Obj->Obj}(I:Inv X pins σ H s)(h:H p=some (.lst xs))
  (ho:s.heap.get? p=some {cls:=.type "list",data:=.seq its.toArray n}) (hf:f {cls:=.type "list",data:=.seq its.toArray n}={cls:=.type "list",data:=.seq its'.toArray n'}) (r:Vals ys its') (hz:ys.length<=sizeLine) (t:Nat):
  Inv X pins σ (upd H p (.lst ys)) {s with heap:=s.heap.update p f,toks:=t}:=by
 have e:(s.heap.update p f).get? p=some {cls:=.type "list",data:=.seq its'.toArray n'}:=by rw[Ho f ho (by rw[hf]<;>rfl),hf]
 refine I.write (x:=p) (e:=p) (by rw[h];trivial) (.inl rfl) (fun b u hb q=>(Hf _ _ (HB hb)).trans q) ⟨_,e⟩ ?_;exact⟨hz,its',n',r,e⟩
def E1:V->V->V->Hp->(Hp->Prop)->Prop:=fun o i v H Q=>∃p xs k j,o=.ref p/\i=.int k/\H p=some (.lst xs)/\ixN xs.length k=some j/\Q (upd H p (.lst (xs.set j v)))
theorem set_list:Fv X E1:=by
 intro pins s σ H o i v ov iv u Q I ro ri rv h;obtain⟨p,xs,k,j,rfl,rfl,hp,hj,q⟩:=h;cases ro;obtain⟨t,rfl⟩:=ri;obtain⟨its,n,r,ho,hz⟩:=I.lst hp;obtain⟨h1,h2,h3,h4⟩:=xx hj;have hl:=r.length;have hn:=ql;have I':Inv X pins σ (upd H p (.lst (xs.set j v))) {s with heap:=s.heap.update p (Obj.mapSeq (·.setIfInBounds j u))}:=
  I.lstUpd hp ho (we its n j u) (r.set rv j) (by rw[List.length_set];exact hz) s.toks
 by_cases h0:0<=k
 ·have hk:k.toNat=j:=by
   rw[seqIndex_of h0 h4]at h1;exact G2 h1
  exact PySem.W.ki_setAt ho h0 (by omega) (by rw[Gq,<-hl];exact h4) (by rw[hk];exact⟨_,I',q⟩)
 ·have hk:(k+(its.toArray.size:Int)).toNat=j:=by
   rw[seqIndex_neg (by omega) h3]at h1;rw[Gq,<-hl];exact G2 h1
  exact PySem.W.ki_setBack ho (by omega) (by rw[Gq,<-hl];exact h3) (by omega) (by rw[hk];exact⟨_,I',q⟩)
theorem sO(lo hi:Option Int)(n:Nat):(sliceBounds lo hi none n).1=((HT.sIx n 0 lo:Nat):Int)/\(sliceBounds lo hi none n).2.1=((HT.sIx n n hi:Nat):Int)/\(sliceBounds lo hi none n).2.2=1:=by
 refine⟨?_,?_,rfl⟩
 ·cases lo with
  |none=>simp[sliceBounds,HT.sIx]
  |some i=>
   simp only[sliceBounds,HT.sIx,Option.getD_none,show(1:Int)>0 by decide,if_true];by_cases h:i<0
   ·simp only[h,if_true]<;>lia
   ·simp only[h,if_false]<;>lia
 ·cases hi with
  |none=>simp[sliceBounds,HT.sIx]
  |some i=>
   simp only[sliceBounds,HT.sIx,Option.getD_none,show(1:Int)>0 by decide,if_true];by_cases h:i<0
   ·simp only[h,if_true]<;>omega
   ·simp only[h,if_false]<;>omega
theorem qN(its:List Value)(lo hi:Option Int):slicePick its.toArray lo hi none=((its.drop (HT.sIx its.length 0 lo)).take (HT.sIx its.length its.length hi-HT.sIx its.length 0 lo)).toArray:=by obtain⟨h1,h2,h3⟩:=sO lo hi its.toArray.size;unfold slicePick;rw[h1,h2,h3];simp only[sliceRange_one,pick_run,Gq]<;>rfl
def FT(K:Frag):V->Option Int->Option Int->Hp->VK->Prop:=fun x lo hi H Q=>∃a xs,x=.ref a/\SqL K H a xs/\∀p,H p=none->Q (.ref p) (upd H p (.lst (jO xs lo hi)))
theorem Bx:SlR X (FT X.K):=by intro pins s σ H x v vl vu lo hi sl Q I rx hs pl pu h;obtain⟨a,xs,rfl,hx,q⟩:=h;cases rx;obtain⟨its,r,ht,hz⟩:=I.list hx;have hlen:=r.length;refine⟨"list",_,slot_list_getitem.lookup,ht.isList.typeIs,?_⟩;refine wpAny_getItem_list_slice ht.isList hs pl pu .none (by simp) ?_ (by rw[Gq]<;>lia);rw[qN,<-hlen];refine⟨.ref s.heap.objs.size,_,I.laid (t':=s.toks) (o:=.lst (jO xs lo hi)) (fun b ob q=>Gi _ q) (Gr _) ?_,rfl,q _ (I.hok.fresh (Gr _))⟩;exact⟨G0 (oG xs lo hi) hz,_,0,(r.drop (HT.sIx xs.length 0 lo)).take (HT.sIx xs.length xs.length hi-HT.sIx xs.length 0 lo),GO _ rfl⟩
noncomputable def kI:V->Bool
 | .non=>true
 | .bl _=>true
 | .int _=>true
 | .str _=>true
 |_=>false
noncomputable def eqV:V->V->Bool
 | .non,.non=>true
 | .bl a,.bl b=>a==b
 | .bl a,.int b=>(if a then 1 else 0)==b
 | .int a,.bl b=>a==(if b then 1 else 0)
 | .int a,.int b=>a==b
 | .str a,.str b=>a==b
 |_,_=>false
theorem Ed{A:Around}{s:Shared}{y x:V}{u v:Value}(ry:RelV y u)(rx:RelV x v)(fy:kI y=true)(fx:kI x=true):SeqAt.EqAt A s u v (eqV y x):=by
 cases y with
 |non=>
  cases ry;cases x with
  |non=>cases rx;exact SeqAt.EqAt.same _
  |bl b=>cases rx;exact SeqAt.EqAt.none_bool b
  |int b=>obtain⟨t,rfl⟩:=rx;exact SeqAt.EqAt.none_int b t
  |str b=>obtain⟨t,rfl⟩:=rx;exact SeqAt.EqAt.none_str b t
  |_=>exact absurd (show false=true from fx) GJ
 |bl a=>
  cases ry;cases x with
  |non=>cases rx;exact SeqAt.EqAt.bool_none a
  |bl b=>cases rx;exact SeqAt.EqAt.bool_bool a b
  |int b=>obtain⟨t,rfl⟩:=rx;exact SeqAt.EqAt.bool_int a b t
  |str b=>obtain⟨t,rfl⟩:=rx;exact SeqAt.EqAt.bool_str a b t
  |_=>exact absurd (show false=true from fx) GJ
 |int a=>
  obtain⟨t',rfl⟩:=ry;cases x with
  |non=>cases rx;exact SeqAt.EqAt.int_none a t'
  |bl b=>cases rx;exact SeqAt.EqAt.int_bool a t' b
  |int b=>obtain⟨t,rfl⟩:=rx;exact SeqAt.EqAt.int_int a t' b t
  |str b=>obtain⟨t,rfl⟩:=rx;exact SeqAt.EqAt.int_str a t' b t
  |_=>exact absurd (show false=true from fx) GJ
 |str a=>
  obtain⟨t',rfl⟩:=ry;cases x with
  |non=>cases rx;exact SeqAt.EqAt.str_none a t'
  |bl b=>cases rx;exact SeqAt.EqAt.str_bool a t' b
  |int b=>obtain⟨t,rfl⟩:=rx;exact SeqAt.EqAt.str_int a t' b t
  |str b=>obtain⟨t,rfl⟩:=rx;exact SeqAt.EqAt.str_str a t' b t
  |_=>exact absurd (show false=true from fx) GJ
 |_=>exact absurd (show false=true from fy) GJ
noncomputable def eqU(x:V)(u:Value):Bool:=match u with
 | .none=>eqV .non x
 | .bool b=>eqV (.bl b) x
 | .int i _=>eqV (.int i) x
 | .str z _=>eqV (.str z) x
 |_=>false
theorem AD{x y:V}{u:Value}(r:RelV y u)(f:kI y=true):eqU x u=eqV y x:=by
 cases y with
 |non=>cases r;rfl
 |bl b=>cases r;rfl
 |int i=>obtain⟨t,rfl⟩:=r;rfl
 |str z=>obtain⟨t,rfl⟩:=r;rfl
 |_=>exact absurd (show false=true from f) GJ
theorem ur{x:V}:∀{xs:List V}{us:List Value},Vals xs us->xs.all kI=true->us.any (eqU x)=xs.any fun y=>eqV y x
 |_,_,.nil,_=>rfl
 |y::xs,u::us,.cons r t,f=>by rw[List.all_cons,HY]at f;rw[List.any_cons,List.any_cons,AD r f.1,ur t f.2]
theorem qk{A:Around}{s:Shared}{x:V}{v:Value}(rx:RelV x v)(fx:kI x=true):∀{xs:List V}{us:List Value},Vals xs us->xs.all kI=true->∀u∈us,SeqAt.EqAt A s u v (eqU x u)
 |_,_,.nil,_=>fun u hu=>by cases hu
 |y::xs,u::us,.cons r t,f=>fun u' hu=>by
  rw[List.all_cons,HY]at f;rcases GH.mp hu with rfl|hu
  ·rw[AD r f.1];exact Ed r rx f.1 fx
  ·exact qk rx fx t f.2 u' hu
noncomputable def inV(x:V)(xs:List V):Bool:=xs.any fun y=>eqV y x
noncomputable def rIn(K:Frag)(neg:Bool):R2:=fun x y H Q=>∃p xs,y=.ref p/\(SqL K H p xs\/SqT K H p xs)/\kI x=true/\xs.all kI=true/\Q (.bl (if neg then !inV x xs else inV x xs)) H
theorem jU:OpR X (compareOp .In) (rIn X.K false):=by
 intro pins s σ H x y v u Q I rx ry h;obtain⟨p,xs,rfl,hq,fx,fs,q⟩:=h;cases ry;rcases hq with hq|hq
 ·obtain⟨its,r,pl,hz⟩:=I.list hq;refine SeqAt.in_listAt (eqU x) pl.isList (fun w hw=>qk rx fx r fs w (by simpa using hw)) ⟨.bl _,H,I,rfl,?_⟩;rw[show its.toArray.any (eqU x)=its.any (eqU x) by simp,ur r fs];exact q
 ·obtain⟨its,r,pl,hz⟩:=I.tuple hq;refine SeqAt.in_tupleAt (eqU x) pl (fun w hw=>qk rx fx r fs w (by simpa using hw)) ⟨.bl _,H,I,rfl,?_⟩;rw[show its.toArray.any (eqU x)=its.any (eqU x) by simp,ur r fs];exact q
theorem bo:fE X (.builtin "len") (fun xs H Q=>∃p ys,xs=[.ref p]/\(SqL X.K H p ys\/SqT X.K H p ys)/\Q (.int ys.length) H):=by
 intro pins s σ H xs us Q I r h;obtain⟨p,ys,rfl,hq,q⟩:=h;obtain⟨u,rfl,rx⟩:=vals1 r;cases rx;have hn:=ql;rcases hq with hq|hq
 ·obtain⟨its,r',pl,hz⟩:=I.list hq;have hlen:=r'.length;exact Calls.call_len_list pl.isList (by simp only[Gq]<;>lia) ⟨.int ys.length,H,I.tok _,⟨s.toks+1,by rw[Gq,hlen]⟩,q⟩
 ·obtain⟨its,r',pl,hz⟩:=I.tuple hq;have hlen:=r'.length;exact len_tuple pl (by simp only[Gq]<;>omega) ⟨.int ys.length,H,I.tok _,⟨s.toks+1,by rw[Gq,hlen]⟩,q⟩
theorem um:fE X (.type "list") (fun xs H Q=>∃p ys,xs=[.ref p]/\(SqL X.K H p ys\/SqT X.K H p ys)/\∀l,H l=none->Q (.ref l) (upd H l (.lst ys))):=by
 intro pins s σ H xs us Q I r h;obtain⟨p,ys,rfl,hq,q⟩:=h;obtain⟨u,rfl,rx⟩:=vals1 r;cases rx;have fin:∀(its:List Value),Vals ys its->ys.length<=sizeLine->∀(h':Heap)(c':Nat),(∀b o',s.heap.get? b=some o'->h'.get? b=some o')->
   h'.get? s.heap.objs.size=some {cls:=.type "list",dict:=none,data:=.seq its.toArray c',slots:= #[]}->EP X pins σ Q (.ref s.heap.objs.size) {s with heap:=h'}:=fun its r' hz h' c' kp e=>
  ⟨.ref s.heap.objs.size,_,I.laid (t':=s.toks) kp (Gr _) (show b9 X.prog X.w _ h' _ (.lst ys)from⟨hz,its,c',r',e⟩),rfl,q _ (I.hok.fresh (Gr _))⟩
 rcases hq with hq|hq
 ·obtain⟨its,r',pl,hz⟩:=I.list hq;have hlen:=r'.length;obtain⟨o,ho,hc,n,hd⟩:=pl.isList;exact call_list_seq p (.inl rfl) ho hc hd (fun h' c' kp e=>fin its r' hz h' c' kp e) (by simp only[Gq]<;>omega)
 ·obtain⟨its,r',pl,hz⟩:=I.tuple hq;have hlen:=r'.length;obtain⟨o,ho,hc,n,hd⟩:=pl;exact call_list_seq p (.inr rfl) ho hc hd (fun h' c' kp e=>fin its r' hz h' c' kp e) (by simp only[Gq]<;>omega)
theorem bW:fE X (.type "tuple") (fun xs H Q=>∃p ys,xs=[.ref p]/\((SqL X.K H p ys/\∀l,H l=none->Q (.ref l) (upd H l (.tup ys)))\/(SqT X.K H p ys/\Q (.ref p) H))):=by
 intro pins s σ H xs us Q I r h;obtain⟨p,ys,rfl,h⟩:=h;obtain⟨u,rfl,rx⟩:=vals1 r;cases rx;rcases h with⟨hq,q⟩|⟨hq,q⟩
 ·obtain⟨its,r',pl,hz⟩:=I.list hq;have hlen:=r'.length;refine call_tuple_list pl.isList (fun h' kp=>?_) (by simp only[Gq]<;>omega);have I1:Inv X pins σ H {s with heap:=h'}:=I.kept (t':=s.toks) kp;have I2:Inv X pins σ (upd H h'.objs.size (.tup ys)) {s with heap:=h'.push {cls:=.type "tuple",data:=.seq its.toArray}}:=
   I1.laid (t':=s.toks) (fun b o e=>Gi _ e) (Gr _) (show b9 X.prog X.w _ _ _ (.tup ys)from⟨hz,its,r',IsTup.new _ _⟩)
  exact⟨.ref h'.objs.size,_,I2,rfl,q _ (I1.hok.fresh (Gr _))⟩
 ·obtain⟨its,r',pl,hz⟩:=I.tuple hq;exact call_tuple_same pl ⟨.ref p,H,I,rfl,q⟩
def tyV(K:Frag)(T:String)(x:V)(H:Hp):Prop:=match x with
 | .str _=>T="str"
 | .int _=>T="int"
 | .ref p=>(T="list"/\∃xs,SqL K H p xs)\/(T="tuple"/\∃o,K.lookup p=some o/\o.cls=.type "tuple"/\o.dict=none)\/
  (T="dict"/\((∃kvs,H p=some (.dK kvs))\/∃kvs,H p=some (.dT kvs)))\/(T="set"/\∃S n,H p=some (.set S n))
 |_=>False
theorem zk{pins:List (Addr×Obj)}{σ:St}{H:Hp}{s:Shared}{T:String}{x:V}{v:Value}(I:Inv X pins σ H s)(r:RelV x v)(ty:tyV X.K T x H):
  s.TypeIs v T/\∀a,v=.ref a->∃ob,s.heap.get? a=some ob/\ob.dict=none:=by
 cases x with
 |str z=>obtain⟨t,rfl⟩:=r;cases (show T="str" from ty);exact⟨typeIs_str s z t,fun _ e=>nomatch e⟩
 |int i=>obtain⟨t,rfl⟩:=r;cases (show T="int" from ty);exact⟨typeIs_int s i t,fun _ e=>nomatch e⟩
 |ref p=>
  cases r;rcases ty with⟨rfl,xs,hq⟩|⟨rfl,o,hk,hc,hd⟩|⟨rfl,hk⟩|⟨rfl,S,n,hk⟩
  ·obtain⟨its,_,pl,_⟩:=I.list hq;refine⟨pl.isList.typeIs,fun a e=>?_⟩;cases e;obtain⟨o,n,e,c,hd,_⟩:=pl;exact⟨o,e,hd⟩
  ·refine⟨⟨o,I.kIn p o hk,hc⟩,fun a e=>?_⟩;cases e;exact⟨o,I.kIn _ o hk,hd⟩
  ·have z:∃o,s.heap.get? p=some o/\o.ExactDict:=by
    rcases hk with⟨kvs,hk⟩|⟨kvs,hk⟩
    ·obtain⟨_,_,_,_,o,_,_,e,ex,_⟩:=I.hok p _ hk;exact⟨o,e,ex⟩
    ·obtain⟨_,_,_,_,o,_,_,e,ex,_⟩:=I.hok p _ hk;exact⟨o,e,ex⟩
   obtain⟨o,e,ex⟩:=z;refine⟨⟨o,e,ex.1⟩,fun a e2=>?_⟩;cases e2;exact⟨o,e,ex.2.1⟩
  ·obtain⟨o,_,_,_,e,ex,_⟩:=I.hok p _ hk;refine⟨⟨o,e,ex.1⟩,fun a e2=>?_⟩;cases e2;exact⟨o,e,ex.2.1⟩
 |_=>exact False.elim ty
def FO(K:Frag)(T:String)(r:V->List V->Hp->VK->Prop)(to:TE):TE:=fun σ H Q=>to σ H fun x H1=>tyV K T x H1/\r x [] H1 Q
def tBM(K:Frag)(T:String)(r:V->List V->Hp->VK->Prop)(to:TE)(t:TA):TE:=fun σ H Q=>to σ H fun x H1=>tyV K T x H1/\t σ H1 fun xs H2=>r x xs H2 Q
variable{o e:Expr}{es:List Expr}{to:TE}{t:TA}{name:Str}{apos cpos:Pos}{T id:String}{r:V->List V->Hp->VK->Prop}
theorem vW(pa:PlainAttrs T)(slot:Slot T name id)(hty:typeOf (.builtin id)=pure (.type "method_descriptor"))(hm:MtR X id r)(ho:PE X o to)
  (hbase:attributeBase o name X.env (eval o X.env)=eval o X.env:=by rfl) (hline:(apos.endLine==cpos.line)=true:=by rfl):PE X (.Call (.Attribute o name apos) [] [] cpos) (FO X.K T r to):=by
 intro pins s σ H Q I h;refine wpAny_Call_method0_late hbase hline (thn (ho pins s σ H _ I h) fun v s1 hPz=>?_);obtain⟨x,H1,I1,r1,ty,q1⟩:=hPz;obtain⟨h1,h2⟩:=zk I1 r1 ty;exact⟨T,id,pa,slot,hty,h1,h2,Calls.callWith_builtin rfl (PySem.evalArgs_none (hm pins s1 σ H1 x [] v [] Q I1 r1 .nil q1))⟩
theorem jh(pa:PlainAttrs T)(slot:Slot T name id)(hty:typeOf (.builtin id)=pure (.type "method_descriptor"))(hm:MtR X id r)(ho:PE X o to)(ha:PA X (e::es) t)
  (hbase:attributeBase o name X.env (eval o X.env)=eval o X.env:=by rfl)
  (hfew:((backTo cpos (starEach (e::es) X.env)).all (fun x=> !x.1)&&(backToKw cpos (keywordEach [] X.env)).all (fun x=>x.1.isSome)
   &&decide ((e::es).length+([]:List Keyword).length+(if([]:List Keyword).isEmpty then 0 else 1)<30))=true:=by rfl)
  (hline:(apos.endLine==cpos.line)=true:=by rfl) (hs:starEach (e::es) X.env=(false,eval e X.env)::starEach es X.env:=by rfl) (hplain:(backTo cpos (starEach es X.env)).any (·.1)=false:=by rfl):
  PE X (.Call (.Attribute o name apos) (e::es) [] cpos) (tBM X.K T r to t):=by
 intro pins s σ H Q I h;refine wpAny_Call_method_late hbase hfew hline rfl (thn (ho pins s σ H _ I h) fun v s1 hPz=>?_);obtain⟨x,H1,I1,r1,ty,q1⟩:=hPz;obtain⟨h1,h2⟩:=zk I1 r1 ty;refine⟨T,id,pa,slot,hty,h1,h2,?_⟩;have hA:=ha cpos pins s1 σ H1 _ I1 q1;rw[hs]at hA ⊢;refine Calls.callWith_builtin (by show(false||(backTo cpos (starEach es X.env)).any (·.1))=false;rw[hplain]<;>rfl) (Calls.evalArgs_plain ?_);exact thn hA fun us s2 hPz=>L2.ep3 hPz fun vs H2 I2 r2 q2=>hm pins s2 σ H2 x vs v us Q I2 r1 r2 q2
end
def MtM(X:Cx)(id:String)(r:V->List V->Hp->VK->Prop):Prop:=
 ∀(pins:List (Addr×Obj))(s:Shared)(σ:St)(H:Hp)(x:V)(xs:List V)(v:Value)(us:List Value)(Q:VK),Inv X pins σ H s->RelV x v->Vals xs us->r x xs H Q->
  wpAny (model X.prog X.w) X.A (call (.builtin id) (v::us)) (EP X pins σ Q) X.xe s
theorem Vals.one:∀{x:V}{us:List Value},Vals [x] us->∃u,us=[u]/\RelV x u
 |_,_,.cons r .nil=>⟨_,rfl,r⟩
theorem Vals.zero:∀{us:List Value},Vals [] us->us=[]
 |_,.nil=>rfl
theorem Vals.dropLast{xs:List V}{us:List Value}(h:Vals xs us):Vals xs.dropLast us.dropLast:=by
 induction h with
 |nil=>exact .nil
 |cons r t ih=>
  cases t with
  |nil=>exact .nil
  |cons q t'=>exact .cons r ih
theorem Vals.reverse{xs:List V}{us:List Value}(h:Vals xs us):Vals xs.reverse us.reverse:=by
 induction h with
 |nil=>exact .nil
 |cons r t ih=>rw[List.reverse_cons,List.reverse_cons];exact Vals.append ih (.cons r .nil)
theorem wG{α:Type}(l:List α):l.eraseIdx (l.length-1)=l.dropLast:=by
 induction l with
 |nil=>rfl
 |cons a r ih=>
  cases r with
  |nil=>rfl
  |cons b r=>
   have e:(a::b::r).length-1=((b::r).length-1)+1:=by
    have h1:(a::b::r).length=r.length+2:=rfl;have h2:(b::r).length=r.length+1:=rfl
    lia
   rw[e,List.eraseIdx_cons_succ,ih]
   all_goals rfl
section
variable{X:Cx}{pins:List (Addr×Obj)}{σ:St}{H:Hp}{s:Shared}{l b:Addr}{xs ys zs:List V}
theorem Inv.lset{its its':List Value}{n:Nat}{f:Array Value->Array Value}{t':Nat}(I:Inv X pins σ H s)(hH:H l=some (.lst xs))
  (e:s.heap.get? l=some {cls:=.type "list",data:=.seq its.toArray n}) (hf:f its.toArray=its'.toArray) (hv:Vals ys its') (hz:ys.length<=sizeLine):
  Inv X pins σ (upd H l (.lst ys)) {s with heap:=s.heap.update l (Obj.mapSeq f),toks:=t'}:=by
 have q:=PySem.IsL.update e f;rw[hf]at q;refine I.write (x:=l) (e:=l) (by rw[hH];exact trivial) (.inl rfl) (fun b' u hb hu=>(Hf s.heap (Obj.mapSeq f) (HB hb)).trans hu) ⟨_,q⟩ ?_;exact⟨hz,its',_,hv,q⟩
theorem Inv.lnew{its:List Value}{t':Nat}(I:Inv X pins σ H s)(hv:Vals ys its)(hz:ys.length<=sizeLine):
  Inv X pins σ (upd H s.heap.objs.size (.lst ys)) {s with heap:=s.heap.push {cls:=.type "list",data:=.seq its.toArray},toks:=t'}:=
 I.laid (fun _ _ q=>Gi _ q) (Gr _) ⟨hz,its,0,hv,GO _ rfl⟩
theorem Inv.fresh(I:Inv X pins σ H s):H s.heap.objs.size=none:=I.hok.fresh (Gr _)
theorem Inv.lstM(I:Inv X pins σ H s)(hH:H l=some (.lst xs)):xs.length<=sizeLine/\∃(its:List Value)(n:Nat),Vals xs its/\xs.length=its.length/\s.heap.get? l=some {cls:=.type "list",data:=.seq its.toArray n}:=by obtain⟨z,its,n,r,e⟩:=I.hok l _ hH;exact⟨z,its,n,r,r.length,e⟩
end
section
variable{X:Cx}
def BD:V->List V->Hp->VK->Prop:=fun x vs H Q=>∃l xs y,x=.ref l/\vs=[y]/\H l=some (.lst xs)/\xs.length<sizeLine/\Q .non (upd H l (.lst (xs++[y])))
theorem cH:MtM X "list.append" BD:=by
 intro pins s σ H x vs v us Q I rx rv h;obtain⟨l,xs,y,rfl,rfl,hH,hz,q⟩:=h;cases rx;obtain⟨u,rfl,ru⟩:=rv.one;obtain⟨z,its,n,r,hl,e⟩:=I.lstM hH;refine call_meets F.slot_list_append ⟨_,e,rfl⟩ F.entry_list_append (F.args_list_append_2 _ _) (PySem.list_append l its.toArray n u (by rw[Gq];lia)) ⟨e,?_⟩;refine⟨.non,_,I.lset (its':=its++[u]) hH e (by simp) (r.append (.cons ru .nil)) ?_,rfl,q⟩;rw[Gn,HC]
 lia
def FV:V->List V->Hp->VK->Prop:=fun x vs H Q=>∃l xs y,x=.ref l/\vs=[]/\H l=some (.lst xs)/\xs[xs.length-1]?=some y/\Q y (upd H l (.lst xs.dropLast))
theorem DO:MtM X "list.pop" FV:=by
 intro pins s σ H x vs v us Q I rx rv h;obtain⟨l,xs,y,rfl,rfl,hH,hy,q⟩:=h;cases rx;have hus:=rv.zero;subst hus;obtain⟨z,its,n,r,hl,e⟩:=I.lstM hH;obtain⟨u,hu,ru⟩:=r.get hy;have hy':its.toArray[its.toArray.size-1]?=some u:=by show its.toArray[its.length-1]?=some u;rw[<-HU,<-hl];exact hu
 refine call_meets F.slot_list_pop ⟨_,e,rfl⟩ F.entry_list_pop (F.args_list_pop_1 _) (MeetsSeq.list_pop_last l its.toArray n u hy' (by rw[Gq];lia)) ⟨e,?_⟩;refine⟨y,_,I.lset (its':=its.dropLast) hH e ?_ r.dropLast ?_,ru,q⟩
 ·show its.toArray.eraseIdxIfInBounds (its.toArray.size-1)=its.dropLast.toArray;rw[Gq,List.eraseIdxIfInBounds_toArray,wG]
 ·rw[List.length_dropLast];omega
def zG:V->List V->Hp->VK->Prop:=fun x vs H Q=>∃l xs,x=.ref l/\vs=[]/\H l=some (.lst xs)/\Q .non (upd H l (.lst xs.reverse))
theorem wc:MtM X "list.reverse" zG:=by
 intro pins s σ H x vs v us Q I rx rv h;obtain⟨l,xs,rfl,rfl,hH,q⟩:=h;cases rx;have hus:=rv.zero;subst hus;obtain⟨z,its,n,r,hl,e⟩:=I.lstM hH;refine call_meets F.slot_list_reverse ⟨_,e,rfl⟩ F.entry_list_reverse (F.args_list_reverse_1 _) (AutoSeq1.list_reverse_list_0 l its.toArray n (by rw[Gq];omega)) ⟨e,?_⟩;refine⟨.non,_,I.lset (its':=its.reverse) hH e (by simp) r.reverse ?_,rfl,q⟩;rw[List.length_reverse]
 lia
noncomputable def F0:R2:=fun x y H Q=>∃l b xs zs,x=.ref l/\y=.ref b/\H l=some (.lst xs)/\H b=some (.lst zs)/\xs.length+zs.length<=sizeLine/\∀p,H p=none->Q (.ref p) (upd H p (.lst (xs++zs)))
theorem zV:OpR X (binaryOp .Add) F0:=by
 intro pins s σ H x y v u Q I rx ry h;obtain⟨l,b,xs,zs,rfl,rfl,hH,hB,hz,q⟩:=h;cases rx;cases ry;obtain⟨z,its,n,r,hl,e⟩:=I.lstM hH;obtain⟨z2,its2,n2,r2,hl2,e2⟩:=I.lstM hB;refine PySem.P.add_list e e2 ?_ (by rw[Gq,Gq];lia);have ea:its.toArray++its2.toArray=(its++its2).toArray:=by simp
 rw[ea];exact⟨.ref _,_,I.lnew (t':=s.toks) (r.append r2) (by rw[Gn];lia),rfl,q _ I.fresh⟩
end
end L2
namespace Att
open PySem PySem.W PySem.Calls PyProof.Rows
theorem oV{P:Params}{h:Heap}:∀(ns:List Int)(vs:List Value),WellAll P h vs (ns.map WData.int)->IntsAre vs ns:=by
 intro ns
 induction ns with
 |nil=>intro vs w;rw[List.map_nil]at w;cases w;exact .nil
 |cons n ns ih=>
  intro vs w;rw[GC]at w;cases w with
  |cons a b=>cases a;exact .cons _ _ (ih _ b)
theorem yb{l:OpenLaw}{n:Nat}(hn:l.most=some n){P:Params}{h:Heap}{args:List WData}{vals:List Value}
  (hpre:l.row.toRowW.claim.pre args=true) (hwl:WellAll P h vals args):
  ∃a vs ns,vals=[Value.ref a]/\args=[WData.list (ns.map WData.int)]/\h.get? a=some {cls:=.type "list",data:=.seq vs.toArray}/\IntsAre vs ns/\ns.length<=n:=by
 have hsh:WShape.hasAll [] args [.list .int]=true:=(pre_splitW hpre).1;have hc:l.pre.holds [] {args:=args}=true:=(pre_splitW hpre).2;obtain⟨d,r,rfl,h1,h2⟩:=hasAllW_cons hsh;obtain rfl:=hasAllW_nil h2;obtain⟨xs,rfl,h3⟩:=hasW_list h1;obtain⟨ns,rfl⟩:=items_int h3;have hlen:ns.length<=n:=by
  unfold OpenLaw.pre at hc;have h4:(WTm.not (.lt (.lit (.int (n:Int))) (.len (.arg 0)))).holds [] {args:=[.list (ns.map .int)]}=true:=by have h4:=(holds_andW hc).1;rw[hn]at h4;exact h4
  have h5:=condW_of h4 (w_not (w_lt w_lit (w_len_list (w_arg rfl))));rw[Gh]at h5;refine Nat.le_of_not_lt fun q=>?_;have q':(n:Int)<((ns.length:Nat):Int):=by omega
  first
   |(rw[GN q']at h5;exact absurd h5 (by decide))
   |(simp at h5;omega)
 cases hwl with
 |cons w1 w2=>
  cases w2;cases w1 with
  |list ho hall=>exact⟨_,_,ns,rfl,rfl,ho,oV ns _ hall,hlen⟩
theorem yk(l:OpenLaw)(args:List WData):l.row.toRowW.claim.post args (.bool true) args=true:=
 postW_of (r:=l.row.toRowW) (X:=(true==true))
  (show WShape.has [] (.bool true) .bool=true by first|rfl|decide|simp[WShape.has,WShape.arms,WShape.armsAll])
  (show(WTm.eq .res (.lit (.bool true))).value [] {args:=args,res:=some (.bool true),after:=args}=some (.bool (true==true))from w_eq_bool (w_res rfl) w_lit) rfl
theorem vA{l:OpenLaw}{n:Nat}{q:Program}{loose:List Str}{XP:(Str->Option Value)->Heap->Prop}{YP:World->Heap->Prop}{d:DefRec}
  (hn:l.most=some n) (hdf:d.params.defaults=[])
  (call:∀(w:World)(s₀ s₁:Shared)(mg mb:Str->Option Value)(fa:Addr)(o:Obj)(pm cd doc:Value)(a:Addr)(vs:List Value)(ns:List Int),
   Ground q loose [] XP w s₀ mg mb s₁.heap->YP w s₁.heap->
   s₁.heap.get? fa=some o->o.data=.func (docDef d.name d.params d.body d.scope pm cd doc)->s₁.heap.CodeRec cd d.name->mg d.name=some (.ref fa)->
   s₁.heap.get? a=some {cls:=.type "list",data:=.seq vs.toArray}->IntsAre vs ns->ns.length<=n->s₁.gens= #[]->
   codeAny (model l.prog w) callerA (.call (.ref fa) ⟨[.ref a],[]⟩) (fun r s'=>r=.ok (.ret (.bool true))/\OldK s₁.heap s'.heap/\s'.os=s₁.os/\AllBare s'.gens) s₁):
  WalkO q loose XP YP l.row.toRowW d [] (fun f vs=>PySem.call f vs):=by
 intro w s₀ s₁ mg mb G Y fa o pm cd doc dV kV ho hd hcd hD hmg hg args vals as hpre hlay hrd hwl hlo;obtain rfl:dV=.none:=Dflts.none hD hdf;obtain rfl:kV=.none:=Dflts.noKw hD;obtain⟨a,vs,ns,rfl,rfl,hobj,hints,hlen⟩:=yb hn hpre hwl;refine enter_call (codeAny_mono (call w s₀ s₁ mg mb fa o pm cd doc a vs ns G Y ho (fd_plain hd) hcd hmg hobj hints hlen hg) fun r s' hq=>?_);obtain⟨rfl,h2,h3,h4⟩:=hq;exact⟨.inl ⟨.bool true,.bool true,[],rfl,fun _=>rfl,.bool true,yk l _,fun _=>⟨List.Pairwise.nil,fun _ hm=>(nomatch hm)⟩⟩,h2,h3,h4⟩
end Att
namespace L2
open PySem PySem.Spec PyProof.Rows
theorem xZ{vs:List Value}{ns:List Int}(hI:IntsAre vs ns):Vals (ns.map V.int) vs:=by
 induction hI with
 |nil=>exact .nil
 |cons n t h ih=>exact .cons ⟨t,rfl⟩ (ih)
def CC(H:Hp):Prop:=∀b,H b=none\/∃o xs,H b=some (.frz o (.lst xs))
theorem Ai{P:Program}{w:World}{K:Frag}{mg mb:Str->Option Value}{CX:CXT}{k:Nat}{fa a:Addr}{fd:FuncData}{x:Str}{sp:Sp}{s₁:Shared}{vs:List Value}{ns:List Int}
  (KX:K.In s₁.heap) (hns:s₁.heap.Ns mainGlobals mg) (hb:s₁.heap.Ns builtinsNs mb) (hbb:∀x:Str,x≠"__name__"->mb x=bootBuiltins x) (hlim:s₁.heap.NoLimit) (hg:s₁.gens= #[])
  (ha:s₁.heap.get? a=some {cls:=.type "list",data:=.seq vs.toArray}) (hi:IntsAre vs ns) (hl:ns.length<=sizeLine) (hr:cy k callerA)
  (F:∀base:Heap,K.In base->base.Ns mainGlobals mg->ir P w K mg base CX k fa fd [x] sp) (hbind:∀(s:Shared)(u:Value),BindsTo s fd ⟨[u],[]⟩ [(x,u)])
  (hsp:∀H:Hp,CC H->SqL K H a (ns.map V.int)->sp [.ref a] H (fun v _=>v=.bl true) fun _ _ _=>False)
  (hCX:∀H e s',CX [] H s₁ (fun _ _ _=>False) e s'->False):
  codeAny (model P w) callerA (.call (.ref fa) ⟨[.ref a],[]⟩) (fun r s'=>r=.ok (.ret (.bool true))/\OldK s₁.heap s'.heap/\s'.os=s₁.os/\AllBare s'.gens) s₁:=by
 have rv:=xZ hi;have lenV:=hi.length;have core:∀H:Hp,CC H->SqL K H a (ns.map V.int)->HOk P w H s₁.heap->(∀b,H b≠none->b=a)->(H a≠none->K.lookup a=none)->
   codeAny (model P w) callerA (.call (.ref fa) ⟨[.ref a],[]⟩) (fun r s'=>r=.ok (.ret (.bool true))/\OldK s₁.heap s'.heap/\s'.os=s₁.os/\AllBare s'.gens) s₁:=by
  intro H hO hS hok hA hK;have base_of:∀{b:Addr}{o:Obj},s₁.heap.get? b=some o->H b=none->(t9 s₁.heap H).get? b=some o:=fun e n=>As e n;have noA:∀{b:Addr}{o:Obj}{es:Array DictEntry}{ep:Nat},s₁.heap.get? b=some o->o.data=.dict es ep->H b=none:=fun {b o es ep} e d=>by
   cases q:H b with
   |none=>rfl
   |some u=>have e':b=a:=hA b (by rw[q];simp);subst e';rw[ha]at e;cases e;have d':Data.seq vs.toArray _=Data.dict es ep:=d;cases d'
  have nsK:∀{b:Addr}{m:Str->Option Value},s₁.heap.Ns b m->(t9 s₁.heap H).Ns b m:=fun {b m} ⟨o,es,ep,e,d,r⟩=>⟨o,es,ep,base_of e (noA e d),d,r⟩
  have hKb:K.In (t9 s₁.heap H):=fun b o e=>base_of (KX b o e) (by
   cases q:H b with
   |none=>rfl
   |some u=>
    have e':b=a:=hA b (by rw[q];simp);subst e'
    rw[hK (by rw[q];simp)]at e;cases e)
  have hM:Mod K mg (t9 s₁.heap H):=⟨hKb,nsK hns,⟨mb,nsK hb,hbb⟩,let ⟨mc,h1,h2⟩:=hlim;⟨mc,nsK h1,h2⟩⟩;have e0:rp P w K mg (t9 s₁.heap H) callerA [] s₁ H:=⟨rfl,hM,fun b o e=>BU e,Nat.le_of_eq (yK _ _),trivial,fun b hb=>absurd (show b∈([]:List Addr)from hb) (by simp),hok,.of_eq hg⟩;refine codeAny_mono ((F _ hKb (nsK hns)).run callerA [] s₁ H ⟨[.ref a],[]⟩ [.ref a] [.ref a] _ _ hr e0 (hbind s₁ (.ref a)) (.cons rfl .nil) (hsp H hO hS)) fun r s' h=>?_;cases r with
  |error e=>exact(hCX H e s' h).elim
  |ok fl=>
   cases fl with
   |next=>exact False.elim h
   |brk=>exact False.elim h
   |cont=>exact False.elim h
   |ret u=>
    obtain⟨v,H',os,bare,un,hok',r',q⟩:=h;have q':v=.bl true:=q;subst q';obtain rfl:u=Value.bool true:=r';refine⟨rfl,OldK.of_keep fun b o e=>?_,os,bare⟩;cases q:H b with
    |none=>exact un.keep b o e q (by intro z;exact absurd (show b∈([]:List Addr)from z) (by simp)) (by simp)
    |some u=>
     rcases hO b with z|⟨ob,xs,z⟩
     ·rw[q]at z;cases z
     ·have z2:=un.frzs b ob _ z;obtain⟨e1,_⟩:=hok b _ z;obtain⟨e2,_⟩:=hok' b _ z2;rw[e]at e1;cases e1;exact e2
 cases hk:K.lookup a with
 |some o=>have e:=KX a o hk;rw[ha]at e;cases e;refine core (fun _=>none) (fun _=>.inl rfl) (.inr ⟨_,vs.toArray,_,hk,rfl,rfl,rfl,by rw[Gq,lenV];exact hl,by simpa using rv⟩) (fun b u z=>by have z':(none:Option HO)=some u:=z;cases z') (fun b z=>absurd rfl z) fun z=>absurd rfl z
 |none=>
  refine core (fun b=>if b=a then some (.frz {cls:=.type "list",data:=.seq vs.toArray} (.lst (ns.map V.int)))else none) (fun b=>?_) (.inl (.inr ⟨{cls:=.type "list",data:=.seq vs.toArray},Gz rfl⟩)) (fun b u z=>?_) (fun b z=>?_) fun _=>hk
  ·by_cases hb:b=a
   ·exact .inr ⟨_,_,Gz hb⟩
   ·exact .inl (Gu hb)
  ·by_cases hb:b=a
   ·have z':=(Gz hb).symm.trans z;cases z';subst hb;exact⟨ha,by rw[Gh];exact hl,vs,_,rv,ha⟩
   ·have z':=(Gu hb).symm.trans z;cases z'
  ·by_cases hb:b=a
   ·exact hb
   ·exact absurd (Gu hb) z
noncomputable abbrev KOf{K:Frag}{h:Heap}(_:K.In h):Frag:=K
theorem Bh{l:PySem.W.OpenLaw}{n k:Nat}{q:Program}{loose:List Str}{XP:(Str->Option Value)->Heap->Prop}{YP:World->Heap->Prop}{d:DefRec}{K:Params->Frag}{CX:World->CXT}{sp:World->Sp}{x:Str}
  (hn:l.most=some n) (hn2:n<=sizeLine) (hdf:d.params.defaults=[]) (hr:cy k callerA)
  (hY:∀(w:World)(h:Heap),YP w h->(K w.params).In h)
  (F:∀(w:World)(mg:Str->Option Value)(fa:Addr)(h:Heap),(K w.params).In h->h.Ns mainGlobals mg->mg d.name=some (.ref fa)->
   ∃fd:FuncData,(∀(s:Shared)(u:Value),BindsTo s fd ⟨[u],[]⟩ [(x,u)])/\
    ∀base:Heap,(K w.params).In base->base.Ns mainGlobals mg->ir l.prog w (K w.params) mg base (CX w) k fa fd [x] (sp w))
  (hsp:∀(w:World)(H:Hp)(a:Addr)(ns:List Int),ns.length<=n->CC H->SqL (K w.params) H a (ns.map V.int)->sp w [.ref a] H (fun v _=>v=.bl true) fun _ _ _=>False)
  (hCX:∀(w:World)(H:Hp)(s:Shared)(e:Value)(s':Shared),CX w [] H s (fun _ _ _=>False) e s'->False):
  PySem.W.WalkO q loose XP YP l.row.toRowW d [] (fun f vs=>PySem.call f vs):=by
 refine Att.vA hn hdf fun w s₀ s₁ mg mb fa o pm cd doc a vs ns G Y ho hd hcd hmg hobj hints hlen hg=>?_;have KX:=hY w _ Y;obtain⟨fd,hb,hF⟩:=F w mg fa _ KX G.T.g hmg;exact Ai KX G.T.g G.T.b G.T.builtins G.T.nolimit hg hobj hints (G0 hlen hn2) hr hF hb (fun H hO hS=>hsp w H a ns hlen hO hS) fun H e s'=>hCX w H s₁ e s'
theorem zi{l:PySem.W.OpenLaw}{n k:Nat}{q:Program}{loose:List Str}{XP:(Str->Option Value)->Heap->Prop}{YP:World->Heap->Prop}{d:DefRec}{K:Params->Frag}{CX:CXT}{sp:Frag->Sp}{x:Str}
  (hn:l.most=some n) (hn2:n<=sizeLine) (hdf:d.params.defaults=[]) (hr:cy k callerA)
  (hY:∀(w:World)(h:Heap),YP w h->(K w.params).In h)
  (F:∀(w:World)(mg:Str->Option Value)(fa:Addr)(h:Heap),(K w.params).In h->h.Ns mainGlobals mg->mg d.name=some (.ref fa)->
   ∃fd:FuncData,(∀(s:Shared)(u:Value),BindsTo s fd ⟨[u],[]⟩ [(x,u)])/\
    ∀base:Heap,(K w.params).In base->base.Ns mainGlobals mg->ir l.prog w (K w.params) mg base CX k fa fd [x] (sp (K w.params)))
  (hsp:∀(K:Frag)(H:Hp)(a:Addr)(ns:List Int),ns.length<=n->CC H->SqL K H a (ns.map V.int)->sp K [.ref a] H (fun v _=>v=.bl true) fun _ _ _=>False)
  (hCX:∀(H:Hp)(s:Shared)(e:Value)(s':Shared),CX [] H s (fun _ _ _=>False) e s'->False):
  PySem.W.WalkO q loose XP YP l.row.toRowW d [] (fun f vs=>PySem.call f vs):=
 Bh (K:=K) (CX:=fun _=>CX) (sp:=fun w=>sp (K w.params)) hn hn2 hdf hr hY F (fun w H a ns h1 h2 h3=>hsp (K w.params) H a ns h1 h2 h3) fun _ H s e s'=>hCX H s e s'
noncomputable def bG(s:Stmt):Arguments:=match s with
 | .FunctionDef _ a _ _ _ _ _ _ _ _=>a
 |_=>{posonlyargs:=[],args:=[],vararg:=none,kwonlyargs:=[],kw_defaults:=[],kwarg:=none,defaults:=[]}
noncomputable def bj(s:Stmt):List Stmt:=match s with
 | .FunctionDef _ _ b _ _ _ _ _ _ _=>b
 |_=>[]
noncomputable def ak(s:Stmt):Scope:=match s with
 | .FunctionDef _ _ _ _ _ _ sc _ _ _=>sc
 |_=>{kind:=.function,names:=[],isGenerator:=false,isCoroutine:=false}
noncomputable abbrev CX0:CXT:=fun _ _ _ _ _ _=>False
noncomputable abbrev E0:XK:=fun _ _ _=>False
theorem ji{X:Cx}:Passes CX0 X E0:=fun _ _ _ _ _ _ _ h=>h.elim
structure Fun(K:Frag)(x qual:Str)(st:Stmt)(f:Addr)(fd:FuncData):Prop where
 ex:∃(oc:Value)(od:Option Addr)(kV doc pm:Value)(an:Option Addr)(cdv ct:Value)(osl:Array (Option Value)),
  fd=fnOf x qual (bG st) (bj st) (ak st) .none kV doc pm an cdv ct/\K.lookup f=some ⟨oc,od,.func fd,osl⟩/\codeIn K cdv qual=true
 kp:keepIn K (.ref f)=true
section
variable{P:Program}{w:World}{K:Frag}{mg:Str->Option Value}{base:Heap}
theorem Fun.ok{x qual:Str}{st:Stmt}{f:Addr}{fd:FuncData}{N ps:List Str}{k:Nat}{sp:Sp}(F:Fun K x qual st f fd)(S:aA N ps (ak st))(len:∀vs H Q E,sp vs H Q E->vs.length=ps.length)
  (hbody:∀(cdv:Value)(A:Around)(outer:List Env)(s:Shared)(H:Hp)(vs:List V)(Q:VK)(E:XK),cy k (A.deeper (envOfC qual (ak st) s.heap.objs.size f cdv))->sp vs H Q E->
   ∃t,PSs (gZ CX0 P w K mg base N qual (ak st) f cdv A outer s H E).nox (bj st) t/\t {nx:=fun _ H'=>Q .non H',rt:=Q} (start N vs) H):ir P w K mg base CX0 (k+1) f fd ps sp:=by
 obtain⟨oc,od,kV,doc,pm,an,cdv,ct,osl,rfl,lk,hcd⟩:=F.ex;refine vm lk hcd S len fun A outer s H vs Q E hr hsp=>?_;obtain⟨t,h,q⟩:=hbody cdv A outer s H vs Q E hr hsp;exact⟨t,h.nox,q⟩
theorem Fun.binds{x qual:Str}{st:Stmt}{f:Addr}{fd:FuncData}{ps:List Str}(F:Fun K x qual st f fd)
  (h:∀(kV doc pm:Value)(an:Option Addr)(cdv ct:Value)(us:List Value),us.length=ps.length->bindArgs (fnOf x qual (bG st) (bj st) (ak st) .none kV doc pm an cdv ct) ⟨us,[]⟩=pure (ps.zip us)):Binds K fd ps []:=by
 obtain⟨oc,od,kV,doc,pm,an,cdv,ct,osl,rfl,lk,hcd⟩:=F.ex;exact .all (h kV doc pm an cdv ct)
theorem qu{x qual:Str}{st:Stmt}{f:Addr}{oc:Value}{od an:Option Addr}{osl:Array (Option Value)}{kV doc pm cdv ct:Value}(l:K.lookup f=some ⟨oc,od,.func (fnOf x qual (bG st) (bj st) (ak st) .none kV doc pm an cdv ct),osl⟩)
 (c:codeIn K cdv qual=true) (k:keepIn K (.ref f)=true):Fun K x qual st f (fnOf x qual (bG st) (bj st) (ak st) .none kV doc pm an cdv ct):=⟨⟨oc,od,kV,doc,pm,an,cdv,ct,osl,rfl,l,c⟩,k⟩
end
theorem kG{A:Around}{k:Nat}(hr:cy k A):A.units+1<cLine:=Nat.lt_of_le_of_lt (Nat.add_le_add_left (by decide:1<=64) _) hr.units
theorem aF{n:Nat}(h:n<=1000):n<sizeLine:=Nat.lt_of_le_of_lt h (by decide)
section
variable{X:Cx}
theorem pv(i:Nat){x:Str}{pos:Pos}(hN:X.N[i]?=some x:=by rfl)(hv:Vis X.env.scope x:=by first|exact Or.inl rfl|exact Or.inr (Or.inl rfl)|exact Or.inr (Or.inr rfl))(hd:(x==("__debug__":Str))=false:=by decide)
 (hcd:(x==("__classdict__":Str))=false:=by decide):PE X (.Name x pos) (EE i):=DA hN hv hd hcd
end
theorem eZ{A B:Prop}(h:B):if false=true then A else B:=by rw[Gu GJ];exact h
theorem ip{A B:Prop}(h:A):if true=true then A else B:=by rw[Gz rfl];exact h
theorem bf{c A B:Prop}[Decidable c](h1:c->A)(h2:¬c->B):if c then A else B:=by
 by_cases h:c
 ·rw[Gz h];exact h1 h
 ·rw[Gu h];exact h2 h
def ao(H H':Hp):Prop:=∀b o,H b=some o->H' b=some o
theorem ao.refl(H:Hp):ao H H:=fun _ _ h=>h
theorem ao.trans{H H1 H2:Hp}(a:ao H H1)(b:ao H1 H2):ao H H2:=fun c o h=>b c o (a c o h)
theorem ao.free{H H':Hp}(e:ao H H'){l:Addr}(h:H' l=Option.none):H l=Option.none:=by
 cases q:H l with
 |none=>rfl
 |some o=>rw[e l o q]at h;cases h
theorem ao.seq{K:Frag}{H H':Hp}{a:Addr}{xs:List V}(e:ao H H')(h:SqL K H a xs):SqL K H' a xs:=by
 rcases h with(h|⟨o,h⟩)|h
 ·exact .inl (.inl (e _ _ h))
 ·exact .inl (.inr ⟨o,e _ _ h⟩)
 ·exact .inr h
section
variable{X:Cx}
noncomputable abbrev dF(X:Cx)(N':List Str)(scope:Scope)(cl:List (Str×Addr))(C:Addr)(ex:List Addr)(s:Shared)(H:Hp):Cx where
 prog:=X.prog
 w:=X.w
 K:=X.K
 mg:=X.mg
 base:=X.base
 A:=X.A
 N:=N'
 s₀:=s
 H₀:=H
 env:=compEnvC scope cl C X.env
 outer:=X.stack
 stack:=X.stack
 ex:=ex
 fn:=fun x=>(cl.lookup x).isNone
 calm:=X.calm
 pn:=[]
 xe:=fun _ _=>False
def A4(X:Cx)(ifs:List Expr)(t:TT):Prop:=
 ∀(pins:List (Addr×Obj))(s:Shared)(σ:St)(H:Hp)(Q:Bool->Hp->Prop),Inv X pins σ H s->t σ H Q->
  wpAny (model X.prog X.w) X.A (forIn ifs true fun c r=>if r=true then do let ok <-isTrue c X.env (eval c X.env);pure (ForInStep.yield ok)else pure (ForInStep.yield r)) (TP X pins σ Q) X.xe s
def FA:TT:=fun _ H Q=>Q true H
theorem bQ:A4 X [] FA:=fun _ _ _ H _ I h=>wpAny_tests_nil ⟨H,I,h⟩
theorem iH{c:Expr}{t:TT}(h:PT X c t):A4 X [c] t:=fun pins s σ H Q I q=>wpAny_tests_one (h pins s σ H Q I q)
def Wk(σ σ2:St):Prop:=σ.length=σ2.length/\∀(i:Nat) v,σ[i]?=some (some v)->σ2[i]?=some (some v)
noncomputable def gf(n:Nat)(js:List Nat)(σ:St):St:=List.replicate n none++js.map fun j=>(σ[j]?).join
def CM(wi:TI)(g:TG)(tt:TT)(te:TE)(n:Nat)(js:List Nat):TE:=fun σ H Q=>wi σ H fun J H1=>∀D,H1 D=none->∃W:Nat->Nat->List V->Hp->Prop,(∃m,W 0 m [] (upd H1 D (.lst [])))/\∀i m acc H2,W i m acc H2->
 (J.stop i H2/\Q (.ref D) H2)\/(J.go i H2/\∃N:List V->Hp->Prop,(∀acc' H',N acc' H'->∃m',m'<m/\W (i+1) m' acc' H')/\∀x H3,J.yld i H2 x H3->g x (gf n js σ) H3 fun σ2 H4=>tt σ2 H4 fun b H5=>
  if b=true then te σ2 H5 fun y H6=>H6 D=some (.lst acc)/\acc.length<sizeLine/\N (acc++[y]) (upd H6 D (.lst (acc++[y])))else N acc H5)
theorem Ar{pins:List (Addr×Obj)}{σ:St}{H:Hp}{s:Shared}{fp:List Addr}{scope:Scope}{cl:List (Str×Addr)}{own:List Str}{fr:List (Str×Nat)}{h1:Heap}{m0:Str->Option Value}{tk:Nat}
  (I:Inv X pins σ H s) (hf:∀b∈fp,lS X pins H b) (hlt:∀b∈fp,b<s.heap.objs.size) (hkind:scope.kind=.function)
  (hcl:∀x c,cl.lookup x=some c->X.env.cells.lookup x=some c)
  (hkin:∀x,((relabel scope X.env).names.lookup x=some .cell\/(relabel scope X.env).names.lookup x=some .free)->∃c,cl.lookup x=some c)
  (hfr:∀p∈fr,X.N[p.2]?=some p.1/\X.env.kindOf p.1=some .cell)
  (hvis:∀p∈fr,(relabel scope X.env).names.lookup p.1=some .cell)
  (hn:h1.Ns s.heap.objs.size m0) (kk:∀b u,s.heap.get? b=some u->h1.get? b=some u):
  Inv (dF X (own++fr.map (·.1)) scope cl s.heap.objs.size fp s H) [] (gf own.length (fr.map (·.2)) σ) H {s with heap:=h1,toks:=tk}:=by
 refine⟨⟨I.ok.mod,hkind,I.ok.glob,I.ok.blt,Gr _,fun x y c e1 e2=>I.ok.inj x y c (hcl x c e1) (hcl y c e2),hkin,fun x c h e=>?_,I.ok.hd,I.ok.frames,.inl rfl,fun b hb=>?_,I.bs,G0 I.ok.bsz I.sz,fun b o e hb=>?_,fun b hb z=>?_,I.stack,I.stkFree⟩,
  rfl,I.bare,Un.kept kk,⟨m0,hn,fun i x v e1 e2 e3=>?_⟩,fun x c e=>?_,I.hok.fresh (Gr _),fun x c e=>I.freeC x c (hcl x c e),fun p hp=>absurd (show p∈([]:List (Addr×Obj))from hp) (by simp),I.hok.kept kk,?_⟩
 ·have h':(cl.lookup x).isNone=true:=h;have e':cl.lookup x=some c:=e;rw[e']at h';cases h'
 ·exact⟨G5 (hlt b hb),fun x c e=>(hf b hb).2.2.2.2.1 x c (hcl x c e)⟩
 ·rcases (hf b hb).2.2.2.1 with z|z
  ·exact I.ok.noex b o e z
  ·exact absurd (Gx (GG (I.ok.bs b o e).1) z) (HW _)
 ·rcases GH.mp (I.stkSub b z)with e|e
  ·exact(hf b hb).2.1 e
  ·exact(hf b hb).2.2.1 e
 ·have e1':(own++fr.map (·.1))[i]?=some x:=e1;have e2':(List.replicate own.length none++(fr.map (·.2)).map fun j=>(σ[j]?).join)[i]?=some (some v):=e2;by_cases hi:i<own.length
  ·rw[Ia (by simpa using hi),List.getElem?_replicate]at e2';split at e2'<;>cases e2'
  ·rw[List.getElem?_append_right (by lia)]at e1';rw[List.getElem?_append_right (by simpa using hi)]at e2';simp only[List.length_replicate,GX,Option.map_map]at e1' e2';cases q:fr[i-own.length]? with
   |none=>rw[q]at e1';cases e1'
   |some p=>
    rw[q]at e1' e2';simp only[Option.map_some,Option.some.injEq]at e1' e2';subst e1';have hp:p∈fr:=Gp q;obtain⟨m,_,hl⟩:=I.loc;have e3':σ[p.2]?=some (some v):=by
     cases z:σ[p.2]? with
     |none=>rw[Function.comp_apply,z]at e2';cases e2'
     |some y=>rw[Function.comp_apply,z]at e2';simp only[Option.join]at e2';rw[<-e2'];rfl
    obtain⟨u,r,l⟩:=hl p.2 p.1 v (hfr p hp).1 e3' (.inr (.inl (hfr p hp).2));refine⟨u,r,?_⟩;rcases l with⟨k,_⟩|⟨_,c,hc,z⟩
    ·rw[(hfr p hp).2]at k;cases k
    ·obtain⟨c',hc'⟩:=hkin p.1 (.inl (hvis p hp));have e4:=hcl _ _ hc';rw[hc]at e4;cases e4;obtain⟨o,ho,hd⟩:=z;exact .inr ⟨.inl (hvis p hp),c,hc',⟨o,kk _ _ ho,hd⟩⟩
 ·obtain⟨v,o,ho,hd⟩:=I.cell x c (hcl x c e);exact⟨v,o,kk _ _ ho,hd⟩
 ·show(gf own.length (fr.map (·.2)) σ).length=(own++fr.map (·.1)).length;simp[gf]
theorem ug{prog:Program}{w:World}{A:Around}{R:Result->Shared->Prop}{s:Shared}{elt target iter:Expr}{ifs:List Expr}{scope:Scope}{pos:Pos}{it acc:Value}{env:Env}(I:Nat->Shared->Prop)
  (turn:∀n s,I n s->wpAny (model prog w) A (pyNext it) (fun r s₁=>match r with
   |none=>R (.ok .next) s₁
   |some v=>wpAny (model prog w) A (letOwnedTupleGo target it v) (fun _ s₁'=>wpAny (model prog w) A (assign target env v) (fun _ s₂=>
    wpAny (model prog w) A (forIn ifs true fun c r=>if r=true then do let ok <-isTrue c env (eval c env);pure (ForInStep.yield ok)else pure (ForInStep.yield r)) (fun ok s₃=>
     if ok=true then wpAny (model prog w) A (eval elt env) (fun x s₄=>wpAny (model prog w) A (call (.builtin "list.append") [acc,x]) (fun _ s₅=>∃m,m<n/\I m s₅) (notedBy (model prog w) A env fun e s'=>R (.error e) s') s₄) (notedBy (model prog w) A env fun e s'=>R (.error e) s') s₃
     else ∃m,m<n/\I m s₃) (notedBy (model prog w) A env fun e s'=>R (.error e) s') s₂) (notedBy (model prog w) A env fun e s'=>R (.error e) s') s₁') (notedBy (model prog w) A env fun e s'=>R (.error e) s') s₁) (notedBy (model prog w) A env fun e s'=>R (.error e) s') s)
  (n:Nat) (h:I n s):
  codeAny (model prog w) A (.compLoop (.ListComp elt [⟨target,iter,ifs,0⟩] scope pos) 0 it acc env) R s:=by
 refine codeAny_loop rfl I (fun n s hI=>?_) n h;show wpAny _ A ((compTurn (.ListComp elt [⟨target,iter,ifs,0⟩] scope pos) 0 it acc env).onRaise (fun x=>do noteFrame x env;theTreesLotGoes x)) _ _ s;refine wpAny_noted ?_;rw[compTurn_list];refine Gg (wpAny_standAt (Gg (Ha (turn n s hI) (fun r s₁ h₁=>?_) fun _ _ h'=>h')));cases r with
 |none=>exact Gj h₁
 |some v=>
  refine Gg (Ha h₁ (fun _ s₁' h₁'=>?_) fun _ _ h'=>h');refine Gg (Ha h₁' (fun _ s₂ h₂=>Gg (Ha h₂ (fun ok s₃ h₃=>?_) fun _ _ h'=>h')) fun _ _ h'=>h');cases ok with
  |false=>exact Gj ⟨rfl,h₃⟩
  |true=>exact Gg (Gg (Ha h₃ (fun x s₄ h₄=>Gg (Ha h₄ (fun _ s₅ h₅=>Gj (Gj ⟨rfl,h₅⟩)) fun _ _ h'=>h')) fun _ _ h'=>h'))
theorem qy{elt tg iter:Expr}{ifs:List Expr}{scope:Scope}{pos:Pos}{g:TG}{tt:TT}{te:TE}{own:List Str}{fr:List (Str×Nat)}{cl:List (Str×Addr)}
  {pins:List (Addr×Obj)} {σ:St} {H:Hp} {s:Shared} {Q:VK} {it D:Addr} {fp:List Addr} {tn:Nat->Heap->Prop} {J:It} {W:Nat->Nat->List V->Hp->Prop} {m0:Nat} {RR:Value->Addr->Result->Shared->Prop}
  (hRR:∀(s6:Shared)(H5:Hp)(m:Str->Option Value),Inv X pins σ H5 s6->s6.heap.Ns s.heap.objs.size m->lS X pins H5 s.heap.objs.size->Q (.ref D) H5->RR (.ref D) s.heap.objs.size (.ok .next) s6)
  (hc:X.calm=true) (hkind:scope.kind=.function) (hnc:∀y∈scope.names,y.2≠ .cell)
  (hcl:∀x c,cl.lookup x=some c->X.env.cells.lookup x=some c)
  (hkin:∀x,((relabel scope X.env).names.lookup x=some .cell\/(relabel scope X.env).names.lookup x=some .free)->∃c,cl.lookup x=some c)
  (hfr:∀p∈fr,X.N[p.2]?=some p.1/\X.env.kindOf p.1=some .cell) (hvis:∀p∈fr,(relabel scope X.env).names.lookup p.1=some .cell)
  (hw:∀x σ H R,σ.length=own.length+fr.length->(∀(i:Nat),i<own.length->σ[i]?=some none)->g x σ H R->g x σ H fun σ2 H2=>Wk σ σ2/\R σ2 H2)
  (hg:∀C ex s H,PG (dF X (own++fr.map (·.1)) scope cl C ex s H) tg g)
  (ht:∀C ex s H,A4 (dF X (own++fr.map (·.1)) scope cl C ex s H) ifs tt)
  (he:∀C ex s H,PE (dF X (own++fr.map (·.1)) scope cl C ex s H) elt te)
  (I:Inv X pins σ H s) (T:Turn X.prog X.w X.K tg J fp it tn) (st:tn 0 s.heap) (hf:∀b∈fp,lS X pins H b) (w0:W 0 m0 [] H)
  (turn:∀i m acc H2,W i m acc H2->(J.stop i H2/\Q (.ref D) H2)\/(J.go i H2/\∃N:List V->Hp->Prop,(∀acc' H',N acc' H'->∃m',m'<m/\W (i+1) m' acc' H')/\∀x H3,J.yld i H2 x H3->g x (gf own.length (fr.map (·.2)) σ) H3 fun σ2 H4=>tt σ2 H4 fun b H5=>if b=true then te σ2 H5 fun y H6=>H6 D=some (.lst acc)/\acc.length<sizeLine/\N (acc++[y]) (upd H6 D (.lst (acc++[y])))else N acc H5)):
  wpAny (model X.prog X.w) X.A (newFunctionEnv scope X.env.globals cl [] X.env.qual none .none (some X.env)) (fun cenv s₄=>
   codeAny (model X.prog X.w) X.A (.compStart (.ListComp elt [⟨tg,iter,ifs,0⟩] scope pos) 0 (.ref it) (.ref D) {cenv with scope:=relabel scope X.env})
    (RR (.ref D) cenv.locals) s₄) X.xe s:=by
 have hlt:∀b∈fp,b<s.heap.objs.size:=fun b hb=>by obtain⟨o,e,_⟩:=T.obj 0 _ st b hb;exact GG e
 refine wpAny_newFunctionEnv hnc (by intro y hy;simp at hy) (fun h₁ hns hsb=>?_) hkind;have kk:∀b u,s.heap.get? b=some u->h₁.get? b=some u:=fun b u e=>(hsb.2 b (G5 (GG e))).trans (Gi _ e);have I4:Inv (dF X (own++fr.map (·.1)) scope cl s.heap.objs.size fp s H) [] (gf own.length (fr.map (·.2)) σ) H {s with heap:=h₁,toks:=s.toks+([]:List (Str×Value)).length}:=
  Ar I hf hlt hkind hcl hkin hfr hvis hns kk
 have st4:tn 0 h₁:=T.keep _ _ _ st fun b _ o e=>kk b o e;have hσ:(gf own.length (fr.map (·.2)) σ).length=own.length+fr.length:=by simp[gf]
 have hσ0:∀(i:Nat),i<own.length->(gf own.length (fr.map (·.2)) σ)[i]?=some none:=fun i hi=>by unfold gf;rw[Ia (by simpa using hi),List.getElem?_replicate,Gz hi]
 have stat:∀{H':Hp},(∀b∈fp,H' b=none)->∀b∈fp,lS (dF X (own++fr.map (·.1)) scope cl s.heap.objs.size fp s H) [] H' b:=fun hn b hb=>⟨hn b hb,G5 (hlt b hb),fun z=>(GH.mp (I.stkSub b z)).elim (hf b hb).2.1 (hf b hb).2.2.1,.inl hb,fun x c e=>(hf b hb).2.2.2.2.1 x c (hcl x c e),fun p hp=>absurd (show p∈([]:List (Addr×Obj))from hp) (by simp)⟩
 have loop:∀s4:Shared,s4={s with heap:=h₁,toks:=s.toks+([]:List (Str×Value)).length}->
   codeAny (model X.prog X.w) X.A (.compLoop (.ListComp elt [⟨tg,iter,ifs,0⟩] scope pos) 0 (.ref it) (.ref D) (compEnvC scope cl s.heap.objs.size X.env))
    (RR (.ref D) s.heap.objs.size) s4:=by
  rintro s4 rfl;refine ug (fun n s'=>∃i acc H',Inv (dF X (own++fr.map (·.1)) scope cl s.heap.objs.size fp s H) [] (gf own.length (fr.map (·.2)) σ) H' s'/\tn i s'.heap/\(∀b∈fp,H' b=none)/\W i n acc H') ?_ m0
   ⟨0,[],H,I4,st4,fun b hb=>(hf b hb).1,w0⟩
  rintro n s5 ⟨i,acc,H5,I5,st5,fr5,w5⟩;rcases turn i n acc H5 w5 with⟨stop,q⟩|⟨go,N,hN,step⟩
  ·refine Ha (T.done (dF X (own++fr.map (·.1)) scope cl s.heap.objs.size fp s H) rfl rfl rfl hc i [] s5 _ H5 _ I5 (stat fr5) st5 stop) (fun r s6 ⟨hr,I6⟩=>?_) (fun _ _ z=>z);subst hr;obtain⟨m6,hn6,_⟩:=id I6.loc;have I7:Inv X pins σ H5 s6:=I.call' (ch:=fp) I6.os I6.base I6.hok I6.bare (fun b hb=>⟨(hf b hb).2.2.2.1,(hf b hb).2.1,(hf b hb).2.2.2.2.1,(hf b hb).2.2.2.2.2⟩);exact hRR s6 H5 m6 I7 hn6 (I.fpOk (H':=H5) (Gr _) I6.free) q
  ·refine Ha (T.item (dF X (own++fr.map (·.1)) scope cl s.heap.objs.size fp s H) rfl rfl rfl hc i [] s5 _ H5 _ I5 (stat fr5) st5 go) (fun r s6 hPz=>?_) (fun _ _ z=>z);obtain⟨u,hr,h6⟩:=hPz;subst hr;refine Ha h6 (fun _ s7 hPz=>?_) (fun _ _ z=>z);obtain⟨x,H7,I7,r7,y7,st7,fr7⟩:=hPz;have I7':=I7.pinned (stat fr7) (T.obj _ _ st7);refine Ha (hg s.heap.objs.size fp s H _ s7 _ H7 x u _ I7' r7 (hw x _ H7 _ hσ hσ0 (step x H7 y7))) (fun _ s8 hPz=>?_) (fun _ _ z=>False.elim z);obtain⟨σ8,H8,I8,wk,q8⟩:=hPz;have again:∀{s10:Shared}{H10:Hp}{acc':List V},Inv (dF X (own++fr.map (·.1)) scope cl s.heap.objs.size fp s H) ([]++jF fp s7.heap) σ8 H10 s10->N acc' H10->
     ∃m,m<n/\∃i acc H',Inv (dF X (own++fr.map (·.1)) scope cl s.heap.objs.size fp s H) [] (gf own.length (fr.map (·.2)) σ) H' s10/\tn i s10.heap/\(∀b∈fp,H' b=none)/\W i m acc H':=fun {s10 H10 acc'} I10 n10=>by
    obtain⟨m',hm,w10⟩:=hN acc' H10 n10;refine⟨m',hm,i+1,acc',H10,I10.unpinned.weak wk.1 wk.2,T.keep _ _ _ st7 fun b hb o e=>(I10.pin (b,o) (GQ _ (GQ _ (gW hb e)))).1,fun b hb=>?_,w10⟩;obtain⟨o,e,d⟩:=T.obj _ _ st7 b hb;exact(I10.pin (b,o) (GQ _ (GQ _ (gW hb e)))).2.1
   refine Ha (ht s.heap.objs.size fp s H _ s8 σ8 H8 _ I8 q8) (fun b s9 hPz=>?_) (fun _ _ z=>False.elim z);obtain⟨H9,I9,q9⟩:=hPz;cases b with
   |false=>exact again I9 q9
   |true=>refine Ha (he s.heap.objs.size fp s H _ s9 σ8 H9 _ I9 q9) (fun y s10 hPz=>?_) (fun _ _ z=>False.elim z);obtain⟨yv,H10,I10,r10,hD,hl,n10⟩:=hPz;refine Ha (cH (X:=dF X (own++fr.map (·.1)) scope cl s.heap.objs.size fp s H) _ s10 σ8 H10 (.ref D) [yv] (.ref D) [y] (fun _ H'=>H'=upd H10 D (.lst (acc++[yv]))) I10 rfl (.cons r10 .nil) ⟨D,acc,yv,rfl,rfl,hD,hl,rfl⟩) (fun _ s11 hPz=>?_) (fun _ _ z=>False.elim z);obtain⟨_,H11,I11,_,e11⟩:=hPz;subst e11;exact again I11 n10
 exact codeAny_compStart_list (loop _ rfl) (T.self _ 0 _ _ _ st4 (loop _ rfl))
theorem bR{elt tg iter:Expr}{ifs:List Expr}{scope:Scope}{pos:Pos}{wi:TI}{g:TG}{tt:TT}{te:TE}(own:List Str)(fr:List (Str×Nat))(cl:List (Str×Addr))
  (hc:X.calm=true) (hclos:closureFor scope X.env=pure cl) (hkind:scope.kind=.function) (hnc:∀y∈scope.names,y.2≠ .cell)
  (hnames:∀y∈scope.names,y.2=.local->scope.names.lookup y.1=some .local)
  (hcl:∀x c,cl.lookup x=some c->X.env.cells.lookup x=some c)
  (hkin:∀x,((relabel scope X.env).names.lookup x=some .cell\/(relabel scope X.env).names.lookup x=some .free)->∃c,cl.lookup x=some c)
  (hfr:∀p∈fr,X.N[p.2]?=some p.1/\X.env.kindOf p.1=some .cell) (hvis:∀p∈fr,(relabel scope X.env).names.lookup p.1=some .cell)
  (hw:∀x σ H R,σ.length=own.length+fr.length->(∀(i:Nat),i<own.length->σ[i]?=some none)->g x σ H R->g x σ H fun σ2 H2=>Wk σ σ2/\R σ2 H2)
  (hi:PI X tg iter wi)
  (hg:∀C ex s H,PG (dF X (own++fr.map (·.1)) scope cl C ex s H) tg g)
  (ht:∀C ex s H,A4 (dF X (own++fr.map (·.1)) scope cl C ex s H) ifs tt)
  (he:∀C ex s H,PE (dF X (own++fr.map (·.1)) scope cl C ex s H) elt te)
  (hs:∀x,foldedSetIterable iter X.env x=pure x:=by intro _;rfl):
  PE X (.ListComp elt [⟨tg,iter,ifs,0⟩] scope pos) (CM wi g tt te own.length (fr.map (·.2))):=by
 intro pins s σ H Q I h;rw[eval_ListComp];refine wpAny_comprehension_free (use:=none) rfl hs hclos hkind hnames (thn (hi pins s σ H _ I h) fun v s1 h1=>thn h1 fun itv s2 h2=>?_);obtain⟨it,fp,tn,J,H2,e,I2,T,st2,f2,h2⟩:=h2;subst e;obtain⟨W,⟨m0,w0⟩,turn⟩:=h2 s2.heap.objs.size I2.fresh;have I3:=I2.lnew (its:=[]) (ys:=[]) (t':=s2.toks) .nil (G1 _);refine Hn (T:="list") ?_;refine qy (RR:=fun acc C=>compPost (model X.prog X.w) X.A X.xe none (EP X pins σ Q) acc C) (W:=W) (m0:=m0) (D:=s2.heap.objs.size) (own:=own) (fr:=fr)
  (fun s6 H5 m I7 hn fc q=>⟨m,hn,fun h7 sb=>⟨.ref s2.heap.objs.size,H5,I7.turned (t':=s6.toks) (fun b o hb e=>(sb.2 b hb).trans e) fc.1 fc.2.1 fc.2.2.2.1 fc.2.2.2.2.1 fc.2.2.2.2.2,rfl,q⟩⟩) hc hkind hnc hcl hkin hfr hvis hw hg ht he I3 T (T.keep _ _ _ st2 fun b _ o e=>Gi _ e) (fun b hb=>?_) w0 turn
 obtain⟨o,e,_⟩:=T.obj _ _ st2 b hb;exact⟨by rw[av (G5 (GG e))];exact(f2 b hb).1,(f2 b hb).2⟩
theorem jQ{elt tg iter:Expr}{ifs:List Expr}{scope:Scope}{pos spos py:Pos}{y:Str}{i:Nat}{wi:TI}{g:TG}{tt:TT}{te:TE}(hN:X.N.Nodup)(hiy:X.N[i]?=some y)(hy:Loc X.env.scope y)(own:List Str)(fr:List (Str×Nat))(cl:List (Str×Addr))
  (hc:X.calm=true) (hclos:closureFor scope X.env=pure cl) (hkind:scope.kind=.function) (hnc:∀y∈scope.names,y.2≠ .cell)
  (hnames:∀y∈scope.names,y.2=.local->scope.names.lookup y.1=some .local)
  (hcl:∀x c,cl.lookup x=some c->X.env.cells.lookup x=some c)
  (hkin:∀x,((relabel scope X.env).names.lookup x=some .cell\/(relabel scope X.env).names.lookup x=some .free)->∃c,cl.lookup x=some c)
  (hfr:∀p∈fr,X.N[p.2]?=some p.1/\X.env.kindOf p.1=some .cell) (hvis:∀p∈fr,(relabel scope X.env).names.lookup p.1=some .cell)
  (hw:∀x σ H R,σ.length=own.length+fr.length->(∀(i:Nat),i<own.length->σ[i]?=some none)->g x σ H R->g x σ H fun σ2 H2=>Wk σ σ2/\R σ2 H2)
  (hi:PI X tg iter wi)
  (hg:∀C ex s H,PG (dF X (own++fr.map (·.1)) scope cl C ex s H) tg g)
  (ht:∀C ex s H,A4 (dF X (own++fr.map (·.1)) scope cl C ex s H) ifs tt)
  (he:∀C ex s H,PE (dF X (own++fr.map (·.1)) scope cl C ex s H) elt te)
  (hsw:swapsWith (.ListComp elt [⟨tg,iter,ifs,0⟩] scope pos) (some (.Name y py)) spos.line X.env=pure true:=by rfl)
  (hs:∀x,foldedSetIterable iter X.env x=pure x:=by intro _;rfl)
  (hf:X.fn y=true\/X.env.scope.names.lookup y=some .local:=by first|exact .inl rfl|exact .inr rfl|assumption):
  PS X (.Assign [.Name y py] (.ListComp elt [⟨tg,iter,ifs,0⟩] scope pos) spos) (Dn (CM wi g tt te own.length (fr.map (·.2))) (kH i)):=by
 intro pins s σ H D I h;rw[exec_Assign_Name_used _ _ _ _ hsw];refine Gg (wpAny_standAt (Gg ?_));show wpAny _ _ (do let _ <-comprehension (.ListComp elt [⟨tg,iter,ifs,0⟩] scope pos) scope X.env _ (newList []) false (eval iter X.env) (some (assign (.Name y py) X.env))) _ _ s;refine Gg (Ha (wpAny_comprehension_free (use:=some (assign (.Name y py) X.env)) (Q:=fun _ s'=>SP X pins D .next s') rfl hs hclos hkind hnames (thn (hi pins s σ H _ I h) fun v s1 h1=>thn h1 fun itv s2 h2=>?_)) (fun _ s' hq=>Gj (Gj hq)) fun _ _ e=>e);obtain⟨it,fp,tn,J,H2,e,I2,T,st2,f2,h2⟩:=h2;subst e;obtain⟨W,⟨m0,w0⟩,turn⟩:=h2 s2.heap.objs.size I2.fresh;have I3:=I2.lnew (its:=[]) (ys:=[]) (t':=s2.toks) .nil (G1 _);refine Hn (T:="list") ?_;refine qy (Q:=fun v H5=>kH i v σ H5 D.nx) (RR:=fun acc C=>compPost (model X.prog X.w) X.A X.xe (some (assign (.Name y py) X.env)) (fun _ s'=>SP X pins D .next s') acc C) (W:=W) (m0:=m0) (D:=s2.heap.objs.size) (own:=own) (fr:=fr)
  (fun s6 H5 m I7 hn fc q=>?_) hc hkind hnc hcl hkin hfr hvis hw hg ht he I3 T (T.keep _ _ _ st2 fun b _ o e=>Gi _ e) (fun b hb=>?_) w0 turn
 ·show wpAny _ _ (assign (.Name y py) X.env (.ref s2.heap.objs.size)) _ _ _;refine wpAny_assign_Name (rE (v:=.ref s2.heap.objs.size) I7 hN hiy hy rfl (fun s' I' hsb=>?_) hf);obtain⟨a,sb,ha⟩:=hsb;have hne:s2.heap.objs.size+1≠a\/True:=.inr trivial;have hCa:a≠({s2 with heap:=s2.heap.push {cls:=.type "list",data:=.seq ([]:List Value).toArray},toks:=s2.toks}:Shared).heap.objs.size:=by
   rcases ha with rfl|ha
   ·exact HB fc.2.1
   ·exact fc.2.2.2.2.1 y a ha
  refine⟨m,hn.sameBut sb (HB hCa),fun h7 sb7=>?_⟩;exact⟨_,H5,I'.turned (t':=s'.toks) (fun b o hb e=>(sb7.2 b hb).trans e) fc.1 fc.2.1 fc.2.2.2.1 fc.2.2.2.2.1 fc.2.2.2.2.2,q⟩
 ·obtain⟨o,e,_⟩:=T.obj _ _ st2 b hb;exact⟨by rw[av (G5 (GG e))];exact(f2 b hb).1,(f2 b hb).2⟩
noncomputable def fC(env:Env)(xs:List Str):List (Str×Addr):=xs.map fun x=>(x,(env.cells.lookup x).getD 0)
noncomputable def CV(names:List (Str×NameKind))(xs:List Str):Bool:=names.all fun p=>(!(decide (p.2=.cell))&& !(decide (p.2=.free)))||decide (p.1∈xs)
theorem oJ{env:Env}:∀{xs:List Str}{x:Str},x∈xs->∃c,(fC env xs).lookup x=some c
 | [],_,h=>absurd h (by simp)
 |y::xs,x,h=>by
  show ∃c,List.lookup x ((y,(env.cells.lookup y).getD 0)::fC env xs)=some c;rw[List.lookup_cons];cases e:x==y with
  |true=>exact⟨_,rfl⟩
  |false=>
   rcases GH.mp h with rfl|h
   ·rw[beq_self_eq_true]at e;cases e
   ·exact oJ h
theorem aU{env:Env}:∀{xs:List Str},(xs.all fun x=>(env.cells.lookup x).isSome)=true->∀x c,(fC env xs).lookup x=some c->env.cells.lookup x=some c
 | [],_,x,c,h=>by cases h
 |y::xs,ha,x,c,h=>by
  rw[List.all_cons,HY]at ha;have h':List.lookup x ((y,(env.cells.lookup y).getD 0)::fC env xs)=some c:=h;rw[List.lookup_cons]at h';cases e:x==y with
  |true=>
   rw[e]at h';have exy:x=y:=eq_of_beq e;subst exy;have hc:(env.cells.lookup x).getD 0=c:=G2 h';cases q:env.cells.lookup x with
   |none=>rw[q]at ha;cases ha.1
   |some z=>rw[q]at hc;rw[<-hc];rfl
  |false=>rw[e]at h';exact aU ha.2 x c h'
theorem cC{names:List (Str×NameKind)}{xs:List Str}{env:Env}(h:CV names xs=true):∀x,(names.lookup x=some .cell\/names.lookup x=some .free)->∃c,(fC env xs).lookup x=some c:=fun x hx=>by
 refine oJ ?_;unfold CV at h;rw[List.all_eq_true]at h;rcases hx with hx|hx
 ·have:=h _ (PySem.mem_of_lookup hx);simpa using this
 ·have:=h _ (PySem.mem_of_lookup hx);simpa using this
theorem bE{n m i:Nat}(hi:i<n):∀x σ H R,σ.length=n+m->(∀(k:Nat),k<n->σ[k]?=some none)->kH i x σ H R->kH i x σ H fun σ2 H2=>Wk σ σ2/\R σ2 H2:=fun x σ H R _ h0 h=>
 ⟨⟨by simp,fun k v e=>by
  by_cases hk:k=i
  ·subst hk;rw[h0 _ hi]at e;cases e
  ·rw[List.getElem?_set_ne (HB hk)];exact e⟩,h⟩
theorem wI{n:Nat}{g:TG}{tt:TT}{te:TE}{σ0:St}{lo:Int}{Q:VK}{D:Addr}{H:Hp}(Pv:Nat->List V->Hp->Prop)(h0:Pv 0 [] H)
  (hs:∀i acc H2,i<n->Pv i acc H2->g (.int (lo+i)) σ0 H2 fun σ2 H4=>tt σ2 H4 fun b H5=>if b=true then te σ2 H5 fun y H6=>H6 D=some (.lst acc)/\acc.length<sizeLine/\Pv (i+1) (acc++[y]) (upd H6 D (.lst (acc++[y])))else Pv (i+1) acc H5)
  (hd:∀acc H2,Pv n acc H2->Q (.ref D) H2):
  ∃W:Nat->Nat->List V->Hp->Prop,(∃m,W 0 m [] H)/\∀i m acc H2,W i m acc H2->
   ((Itr lo n).stop i H2/\Q (.ref D) H2)\/((Itr lo n).go i H2/\∃N:List V->Hp->Prop,(∀acc' H',N acc' H'->∃m',m'<m/\W (i+1) m' acc' H')/\∀x H3,(Itr lo n).yld i H2 x H3->g x σ0 H3 fun σ2 H4=>tt σ2 H4 fun b H5=>if b=true then te σ2 H5 fun y H6=>H6 D=some (.lst acc)/\acc.length<sizeLine/\N (acc++[y]) (upd H6 D (.lst (acc++[y])))else N acc H5):=by
 refine⟨fun i m acc H=>m=n-i/\i<=n/\Pv i acc H,⟨n,by simp,G1 _,h0⟩,?_⟩;rintro i m acc H2 ⟨rfl,hi,p⟩;by_cases hlt:i<n
 ·refine .inr ⟨hlt,Pv (i+1),fun acc' H' p'=>⟨n-(i+1),by omega,rfl,hlt,p'⟩,fun x H3 y=>?_⟩;obtain⟨e,y⟩:=y;subst e y;exact hs i acc _ hlt p
 ·have e:i=n:=by omega
  subst e;exact .inl ⟨Gr _,hd acc H2 p⟩
theorem yQ{K:Frag}{a:Addr}{xs:List V}{g:TG}{tt:TT}{te:TE}{σ0:St}{Q:VK}{D:Addr}{H:Hp}(Pv:Nat->List V->Hp->Prop)(h0:Pv 0 [] H)(hl:∀i acc H,i<=xs.length->Pv i acc H->SqL K H a xs)
  (hs:∀i x acc H2,xs[i]?=some x->Pv i acc H2->g x σ0 H2 fun σ2 H4=>tt σ2 H4 fun b H5=>if b=true then te σ2 H5 fun y H6=>H6 D=some (.lst acc)/\acc.length<sizeLine/\Pv (i+1) (acc++[y]) (upd H6 D (.lst (acc++[y])))else Pv (i+1) acc H5)
  (hd:∀acc H2,Pv xs.length acc H2->Q (.ref D) H2):
  ∃W:Nat->Nat->List V->Hp->Prop,(∃m,W 0 m [] H)/\∀i m acc H2,W i m acc H2->
   ((Itl K a).stop i H2/\Q (.ref D) H2)\/((Itl K a).go i H2/\∃N:List V->Hp->Prop,(∀acc' H',N acc' H'->∃m',m'<m/\W (i+1) m' acc' H')/\∀x H3,(Itl K a).yld i H2 x H3->g x σ0 H3 fun σ2 H4=>tt σ2 H4 fun b H5=>if b=true then te σ2 H5 fun y H6=>H6 D=some (.lst acc)/\acc.length<sizeLine/\N (acc++[y]) (upd H6 D (.lst (acc++[y])))else N acc H5):=by
 refine⟨fun i m acc H=>m=xs.length-i/\i<=xs.length/\Pv i acc H,⟨xs.length,by simp,G1 _,h0⟩,?_⟩;rintro i m acc H2 ⟨rfl,hi,p⟩;have q:=hl i acc H2 hi p;by_cases hlt:i<xs.length
 ·refine .inr ⟨⟨xs,xs[i],q,by simp[hlt]⟩,Pv (i+1),fun acc' H' p'=>⟨xs.length-(i+1),by omega,rfl,hlt,p'⟩,fun x H3 y=>?_⟩;obtain⟨e,y⟩:=y;subst e;exact hs i x acc _ (y xs q) p
 ·have e:i=xs.length:=by omega
  subst e;exact .inl ⟨⟨xs,q,Gr _⟩,hd acc H2 p⟩
end
mutual
inductive IsD(K:Frag)(H:Hp):PyData->V->Prop
 |non:IsD K H .none .non
 |bl (b:Bool):IsD K H (.bool b) (.bl b)
 |int (i:Int):IsD K H (.int i) (.int i)
 |str (x:Str):IsD K H (.str x) (.str x)
 |tup {a:Addr} {vs:List V} {ds:List PyData}:SqT K H a vs->ff K H ds vs->IsD K H (.tuple ds) (.ref a)
 |lst {a:Addr} {vs:List V} {ds:List PyData}:SqL K H a vs->ff K H ds vs->IsD K H (.list ds) (.ref a)
inductive ff(K:Frag)(H:Hp):List PyData->List V->Prop
 |nil:ff K H [] []
 |cons {d:PyData} {v:V} {ds:List PyData} {vs:List V}:IsD K H d v->ff K H ds vs->ff K H (d::ds) (v::vs)
end
section
variable{X:Cx}{pins:List (Addr×Obj)}{σ:St}{H:Hp}{s:Shared}
mutual
theorem IsD.reads(I:Inv X pins σ H s):∀{d:PyData}{v:V}{u:Value},IsD X.K H d v->RelV v u->∃as,Reads s.heap u d as
 |_,_,_,.non,r=>by cases r;exact⟨_,.none⟩
 |_,_,_,.bl b,r=>by cases r;exact⟨_,.bool b⟩
 |_,_,_,.int i,r=>by obtain⟨t,rfl⟩:=r;exact⟨_,.int i t⟩
 |_,_,_,.str x,r=>by obtain⟨t,rfl⟩:=r;exact⟨_,.str x t⟩
 |_,_,_,.tup h1 h2,r=>by cases r;obtain⟨its,rv,⟨o,e,c,n,d⟩,hz⟩:=I.tuple h1;obtain⟨as,ra⟩:=ff.reads I h2 rv;exact⟨_,.tuple e c d (by simpa using ra)⟩
 |_,_,_,.lst h1 h2,r=>by cases r;obtain⟨its,rv,pl,hz⟩:=I.list h1;obtain⟨o,e,c,n,d⟩:=pl.isList;obtain⟨as,ra⟩:=ff.reads I h2 rv;exact⟨_,.list e c d (by simpa using ra)⟩
theorem ff.reads(I:Inv X pins σ H s):∀{ds:List PyData}{vs:List V}{us:List Value},ff X.K H ds vs->Vals vs us->∃as,ReadsAll s.heap us ds as
 |_,_,_,.nil,.nil=>⟨_,.nil⟩
 |_,_,_,.cons h t,.cons r rs=>by obtain⟨as,ra⟩:=IsD.reads I h r;obtain⟨bs,rb⟩:=ff.reads I t rs;exact⟨_,.cons ra rb⟩
end
noncomputable def FZ(K:Frag):R2:=fun x y H Q=>∃d1 d2,IsD K H d1 x/\IsD K H d2 y/\d1.canLay0=true/\d2.canLay0=true/\d2.depth<=50/\Q (.bl (PyData.eqv d1 d2)) H
noncomputable def FW(K:Frag):R2:=fun x y H Q=>∃d1 d2,IsD K H d1 x/\IsD K H d2 y/\d1.canLay0=true/\d2.canLay0=true/\d2.depth<=50/\Q (.bl (!PyData.eqv d1 d2)) H
theorem DG(hu:X.A.units+64<cLine):OpR X (compareOp .Eq) (FZ X.K):=by intro pins s σ H x y v u Q I rx ry h;obtain⟨d1,d2,h1,h2,c1,c2,hd,q⟩:=h;obtain⟨as,ra⟩:=IsD.reads I h1 rx;obtain⟨bs,rb⟩:=IsD.reads I h2 ry;exact SeqAt.rcAt_reads ra rb c1 c2 (by lia) _ _ _ _ (show EP X pins σ Q _ s from⟨.bl _,H,I,rfl,q⟩)
theorem zU(hu:X.A.units+64<cLine):OpR X (compareOp .NotEq) (FW X.K):=by intro pins s σ H x y v u Q I rx ry h;obtain⟨d1,d2,h1,h2,c1,c2,hd,q⟩:=h;obtain⟨as,ra⟩:=IsD.reads I h1 rx;obtain⟨bs,rb⟩:=IsD.reads I h2 ry;exact SeqAt.rcNeAt_reads ra rb c1 c2 (by omega) _ _ _ _ (show EP X pins σ Q _ s from⟨.bl _,H,I,rfl,q⟩)
theorem p6:OpR X (binaryOp .FloorDiv) (rI (fun _ j=>0<j/\j.natAbs.log2<9000) fun i j=>.int (i / j)):=opI fun i j _ _ _ _ _ hc q=>by have h1:(0:Int)<j:=hc.1;exact floordiv_int (by omega) (by rw[Int.fdiv_eq_ediv_of_nonneg i (by omega)];exact q) (.inl (PyProof.noPylong_of_log2 hc.2))
def E9:V->List V->Hp->VK->Prop:=fun x xs H Q=>∃i,x=.int i/\xs=[]/\Q (.int (Builtin.Int.intBits i:Nat)) H
theorem B0:MtR X "int.bit_length" E9:=by intro pins s σ H x xs v us Q I rx rv h;obtain⟨i,rfl,rfl,q⟩:=h;cases rv;obtain⟨t,rfl⟩:=rx;exact call_int_bit_length ⟨.int _,H,I.tok _,⟨_,rfl⟩,q⟩
def E4(K:Frag):List V->Hp->VK->Prop:=fun xs H Q=>∃x n t b,xs=[x,.ty n]/\g5 K H x t/\kitOne K t (.type n)=some b/\Q (.bl b) H
theorem qD:fE X (.builtin "isinstance") (E4 X.K):=by
 intro pins s σ H xs us Q I rs h;obtain⟨x,n,t,b,rfl,ty,e,q⟩:=h;cases rs with
 |cons r rr=>
  cases rr with
  |cons r2 rr=>cases rr;cases r2;exact yE I r ty e fun tk=>⟨.bl b,H,I.tok _,rfl,q⟩
structure Df(P:Program)(w:World)(K:Frag)(mg:Str->Option Value)(base:Heap)(k:Nat)(x:Str)(ps:List Str)(sp:Sp):Prop where
 ex:∃f fd,ir P w K mg base CX0 k f fd ps sp/\Binds K fd ps []/\mg x=some (.ref f)/\keepIn K (.ref f)=true
structure Tx(K:Frag)(mg:Str->Option Value)(x:Str)(st:Stmt)(ps:List Str):Prop where
 ex:∃f fd,Fun K x x st f fd/\Binds K fd ps []/\mg x=some (.ref f)
theorem Tx.df{P:Program}{w:World}{K:Frag}{mg:Str->Option Value}{base:Heap}{x:Str}{st:Stmt}{N ps:List Str}{k:Nat}{sp:Sp}(T:Tx K mg x st ps)(S:aA N ps (ak st))
  (len:∀vs H Q E,sp vs H Q E->vs.length=ps.length)
  (hbody:∀(f:Addr)(cdv:Value)(A:Around)(outer:List Env)(s:Shared)(H:Hp)(vs:List V)(Q:VK)(E:XK),cy k (A.deeper (envOfC x (ak st) s.heap.objs.size f cdv))->sp vs H Q E->
   ∃t,PSs (gZ CX0 P w K mg base N x (ak st) f cdv A outer s H E).nox (bj st) t/\t {nx:=fun _ H'=>Q .non H',rt:=Q} (start N vs) H):Df P w K mg base (k+1) x ps sp:=by
 obtain⟨f,fd,F,b,hm⟩:=T.ex;exact⟨f,fd,F.ok S len fun cdv A outer s H vs Q E hr h=>hbody f cdv A outer s H vs Q E hr h,b,hm,F.kp⟩
def tCF(sp:Sp)(t:TA):TE:=fun σ H Q=>t σ H fun vs H1=>sp vs H1 Q E0
theorem aB{j k:Nat}{x:Str}{ps:List Str}{sp:Sp}{p pos:Pos}{e:Expr}{es:List Expr}{t:TA}(D:Df X.prog X.w X.K X.mg X.base j x ps sp)(hr:cy k X.A)(ha:PA X (e::es) t)(hg:Gl X x:=by rfl)(hj:j<=k:=by decide)
  (hdb:(x==("__debug__":Str))=false:=by decide) (he:starEach (e::es) X.env=(false,eval e X.env)::starEach es X.env:=by rfl) (hpl:(backTo pos (starEach es X.env)).any (·.1)=false:=by rfl):
  PE X (.Call (.Name x p) (e::es) [] pos) (tCF sp t):=by
 obtain⟨f,fd,F,b,hm,kp⟩:=D.ex;have h:=tH (ds:=[]) (dvs:=[]) (E:=E0) (p:=p) (pos:=pos) F (hr.mono hj) hg hm kp b .nil ji ha hdb he hpl;have e1:lX sp [] E0 t=tCF sp t:=by funext σ H Q;unfold lX tCF;simp only[GY]
 rw[e1]at h;exact h
structure Bn(mg:Str->Option Value):Prop where
 len:mg "len"=none
 range:mg "range"=none
 isinstance:mg "isinstance"=none
 int:mg "int"=none
 bool:mg "bool"=none
 list:mg "list"=none
 tuple:mg "tuple"=none
 str:mg "str"=none
 dict:mg "dict"=none
 sorted:mg "sorted"=none
 enumerate:mg "enumerate"=none
 min:mg "min"=none
 max:mg "max"=none
 set:mg "set"=none
theorem ao.upd{H:Hp}{a:Addr}{o:HO}(h:H a=none):ao H (upd H a o):=fun b u e=>by rw[av (c9 e h)];exact e
theorem ao.tup{K:Frag}{H H':Hp}{a:Addr}{xs:List V}(e:ao H H')(h:SqT K H a xs):SqT K H' a xs:=by
 rcases h with(h|⟨o,h⟩)|h
 ·exact .inl (.inl (e _ _ h))
 ·exact .inl (.inr ⟨o,e _ _ h⟩)
 ·exact .inr h
end
theorem EC{K:Frag}{h:Heap}{mg:Str->Option Value}{x:Str}{st:Stmt}{ps:List Str}{f:Addr}{oc:Value}{od an:Option Addr}{osl:Array (Option Value)}{kV doc pm cdv ct:Value}(X:K.In h)(G:h.Ns mainGlobals mg)
  (a:nsIn K mainGlobals x=some (some (.ref f)))
  (l:K.lookup f=some ⟨oc,od,.func (fnOf x x (bG st) (bj st) (ak st) .none kV doc pm an cdv ct),osl⟩)
  (c:codeIn K cdv x=true) (k:keepIn K (.ref f)=true)
  (hb:∀(kV doc pm:Value)(an:Option Addr)(cdv ct:Value)(us:List Value),us.length=ps.length->bindArgs (fnOf x x (bG st) (bj st) (ak st) .none kV doc pm an cdv ct) ⟨us,[]⟩=pure (ps.zip us)):Tx K mg x st ps:=
 ⟨f,_,qu l c k,(qu l c k).binds hb,PySem.W.mg_of X G a⟩
theorem Ft{K:Frag}{h:Heap}{mg:Str->Option Value}(X:K.In h)(G:h.Ns mainGlobals mg)
  (z0:nsIn K mainGlobals "len"=some none) (z1:nsIn K mainGlobals "range"=some none) (z2:nsIn K mainGlobals "isinstance"=some none)
  (z3:nsIn K mainGlobals "int"=some none) (z4:nsIn K mainGlobals "bool"=some none) (z5:nsIn K mainGlobals "list"=some none) (z6:nsIn K mainGlobals "tuple"=some none)
  (z7:nsIn K mainGlobals "str"=some none) (z8:nsIn K mainGlobals "dict"=some none) (z9:nsIn K mainGlobals "sorted"=some none) (z10:nsIn K mainGlobals "enumerate"=some none)
  (z11:nsIn K mainGlobals "min"=some none) (z12:nsIn K mainGlobals "max"=some none) (z13:nsIn K mainGlobals "set"=some none):Bn mg:=
 ⟨Hk X G z0,Hk X G z1,Hk X G z2,Hk X G z3,Hk X G z4,Hk X G z5,Hk X G z6,Hk X G z7,Hk X G z8,Hk X G z9,Hk X G z10,Hk X G z11,Hk X G z12,Hk X G z13⟩
def EI(t u:TS):TS:=fun D σ H=>∃R:St->Hp->Prop,t {D with nx:=R} σ H/\∀σ' H',R σ' H'->u D σ' H'
theorem aY{X:Cx}{st:Stmt}{rest:List Stmt}{t u:TS}(h1:PS X st t)(h2:PSs X rest u):PSs X (st::rest) (EI t u):=by
 intro pins s σ H D I h;obtain⟨R,h,hR⟩:=h;refine wpAny_execs_cons (thn (h1 pins s σ H {D with nx:=R} I h) fun f s1 q=>?_);cases f with
 |next=>obtain⟨σ',H',I',q⟩:=q;exact h2 pins s1 σ' H' D I' (hR σ' H' q)
 |ret v=>exact q
 |brk=>exact q
 |cont=>exact q
theorem aK{n:Nat}(h:Nat.ble n 1000=true):n<=sizeLine:=G0 (GP h) (by decide)
end L2
namespace LM
noncomputable def eD(w h k:Nat):List Nat:=
 (if 0<k / w then[k-w]else[])++((if 0<k % w then[k-1]else[])++((if k % w+1<w then[k+1]else[])++(if k / w+1<h then[k+w]else[])))
theorem nJ{w h k j:Nat}:j∈eD w h k<->(0<k / w/\j=k-w)\/(0<k % w/\j=k-1)\/(k % w+1<w/\j=k+1)\/(k / w+1<h/\j=k+w):=by unfold eD;by_cases h1:0<k / w<;>by_cases h2:0<k % w<;>by_cases h3:k % w+1<w<;>by_cases h4:k / w+1<h<;>simp[h1,h2,h3,h4]
theorem BY{w h k j:Nat}(hw:0<w)(hk:k<w*h)(hj:j∈eD w h k):j<w*h:=by
 have e:w*(k / w)+k % w=k:=Nat.div_add_mod k w;have r:k % w<w:=Nat.mod_lt k hw;have q:k / w<h:=(Nat.div_lt_iff_lt_mul hw).mpr (by rw[Nat.mul_comm];exact hk);rcases nJ.mp hj with⟨_,rfl⟩|⟨_,rfl⟩|⟨h3,rfl⟩|⟨h4,rfl⟩
 ·omega
 ·omega
 ·have:w*(k / w+1)<=w*h:=Nat.mul_le_mul_left w q;rw[Nat.mul_add]at this;omega
 ·have:w*(k / w+1+1)<=w*h:=Nat.mul_le_mul_left w h4;rw[Nat.mul_add,Nat.mul_add]at this;omega
theorem zY(w h k:Nat):(eD w h k).length<=4:=by unfold eD;by_cases h1:0<k / w<;>by_cases h2:0<k % w<;>by_cases h3:k % w+1<w<;>by_cases h4:k / w+1<h<;>simp[h1,h2,h3,h4]
noncomputable def gU(a:Nat)(js:List Nat):Nat:=js.foldl (fun a j=>a||| 2^j) a
theorem length_le_of_subset{α:Type}[DecidableEq α]:∀{l1 l2:List α},l1.Nodup->(∀x∈l1,x∈l2)->l1.length<=l2.length
 | [],_,_,_=>G1 _
 |x::l1,l2,nd,h=>by
  obtain⟨nx,nd⟩:=Hv.mp nd;have hx:x∈l2:=h x Gy;have ih:=length_le_of_subset (l1:=l1) (l2:=l2.erase x) nd fun y hy=>by have hne:y≠x:=fun e=>nx (e▸hy);exact(List.mem_erase_of_ne hne).mpr (h y (Gs _ hy))
  rw[List.length_erase_of_mem hx]at ih;have:=List.length_pos_of_mem hx;rw[GV];omega
theorem rW{w h k j:Nat}(hw:0<w)(hk:k<w*h)(hj:j∈eD w h k):k∈eD w h j:=by
 have e:w*(k / w)+k % w=k:=Nat.div_add_mod k w;have r:k % w<w:=Nat.mod_lt k hw;have q:k / w<h:=(Nat.div_lt_iff_lt_mul hw).mpr (by rw[Nat.mul_comm];exact hk);rw[nJ];rcases nJ.mp hj with⟨h1,rfl⟩|⟨h2,rfl⟩|⟨h3,rfl⟩|⟨h4,rfl⟩
 ·have hwk:w<=k:=by
   have:=Nat.mul_le_mul_left w h1
   lia
  have ed:(k-w) / w=k / w-1:=by
   have:k=(k-w)+w:=(by omega);have e2:k / w=(k-w) / w+1:=by
    conv=>lhs;rw[this]
    exact Nat.add_div_right _ hw
   lia
  refine .inr (.inr (.inr ⟨by rw[ed];omega,by omega⟩))
 ·have e3:(k-1) % w=k % w-1:=by
   have:k-1=w*(k / w)+(k % w-1):=(by lia);rw[this,Nat.mul_add_mod];exact Nat.mod_eq_of_lt (by omega)
  refine .inr (.inr (.inl ⟨by rw[e3];omega,by lia⟩))
 ·have e3:(k+1) % w=k % w+1:=by
   have:k+1=w*(k / w)+(k % w+1):=(by lia);rw[this,Nat.mul_add_mod];exact Nat.mod_eq_of_lt (by lia)
  refine .inr (.inl ⟨by rw[e3];lia,by lia⟩)
 ·have ed:(k+w) / w=k / w+1:=Nat.add_div_right k hw;exact .inl ⟨by rw[ed];exact Nat.succ_pos _,by lia⟩
noncomputable def Aa(w h k:Int):List Int:=
 (if decide (0<k / w)=true then[k-w]else[])++((if decide (0<k % w)=true then[k-1]else[])++((if decide (k % w<w-1)=true then[k+1]else[])++(if decide (k / w<h-1)=true then[k+w]else[])))
theorem zZ(w h k:Nat):Aa w h k=(eD w h k).map fun j:Nat=>(j:Int):=by
 unfold Aa eD;have e1:((k:Int) / (w:Int))=((k / w:Nat):Int):=(Int.natCast_ediv k w).symm;have e2:((k:Int) % (w:Int))=((k % w:Nat):Int):=(Int.natCast_emod k w).symm;have q1:0<k / w->w<=k:=fun h=>by
  rcases Nat.lt_or_ge k w with q|q
  ·rw[Nat.div_eq_of_lt q]at h;lia
  ·exact q
 have q2:0<k % w->1<=k:=fun h=>by
  rcases Nat.eq_zero_or_pos k with q|q
  ·subst q;simp at h
  ·exact q
 rw[e1,e2];have b1:(if decide ((0:Int)<((k / w:Nat):Int))=true then[(k:Int)-w]else[])=(if 0<k / w then[k-w]else[]).map fun j:Nat=>(j:Int):=by
  by_cases h:0<k / w
  ·have:=q1 h;rw[Gz (by rw[Hj];omega),Gz h,List.map_singleton];congr 1;lia
  ·rw[Gu (by rw[Hj];omega),Gu h];rfl
 have b2:(if decide ((0:Int)<((k % w:Nat):Int))=true then[(k:Int)-1]else[])=(if 0<k % w then[k-1]else[]).map fun j:Nat=>(j:Int):=by
  by_cases h:0<k % w
  ·have:=q2 h;rw[Gz (by rw[Hj];omega),Gz h,List.map_singleton];congr 1;lia
  ·rw[Gu (by rw[Hj];omega),Gu h];rfl
 have b3:(if decide (((k % w:Nat):Int)<(w:Int)-1)=true then[(k:Int)+1]else[])=(if k % w+1<w then[k+1]else[]).map fun j:Nat=>(j:Int):=by
  by_cases h:k % w+1<w
  ·rw[Gz (by rw[Hj];lia),Gz h,List.map_singleton];congr 1
  ·rw[Gu (by rw[Hj];lia),Gu h];rfl
 have b4:(if decide (((k / w:Nat):Int)<(h:Int)-1)=true then[(k:Int)+w]else[])=(if k / w+1<h then[k+w]else[]).map fun j:Nat=>(j:Int):=by
  by_cases hh:k / w+1<h
  ·rw[Gz (by rw[Hj];lia),Gz hh,List.map_singleton];congr 1
  ·rw[Gu (by rw[Hj];lia),Gu hh];rfl
 rw[b1,b2,b3,b4];simp only[GK]
end LM
namespace My
open PySem L2 LM PyProof.Rows
theorem fb(a b:Nat):Builtin.bitAnd (a:Int) (b:Int)=((a&&& b:Nat):Int):=by rw[bitAnd_pp (by omega) (by omega)];simp only[Hg]
theorem D3(c:Nat)(k:Int)(h:0<=k):decide (V.int (Builtin.bitAnd ((c:Int) / 2^k.toNat) 1)=V.int 1)=(decide (0<=k)&&c.testBit k.toNat):=by
 have e:(c:Int) / 2^k.toNat=((c / 2^k.toNat:Nat):Int):=by rw[Int.natCast_ediv,Int.natCast_pow];rfl
 have e2:Builtin.bitAnd ((c:Int) / 2^k.toNat) 1=((c / 2^k.toNat % 2:Nat):Int):=by rw[e];exact(fb _ 1).trans (by rw[Nat.and_one_is_mod])
 rw[e2,Nat.testBit_eq_decide_div_mod_eq,GN h,Bool.true_and,Bool.eq_iff_iff,Hj,Hj];constructor
 ·intro z;have:=V.int.inj z
  lia
 ·intro z;rw[z];rfl
theorem Av{l:List Nat}{i:Nat}{y:V}(h:((l.map fun k:Nat=>(k:Int)).map V.int)[i]?=some y):∃k,l[i]?=some k/\y=V.int (k:Int):=by
 rw[GX,GX]at h;cases e:l[i]? with
 |none=>rw[e]at h;cases h
 |some k=>rw[e]at h;exact⟨k,rfl,(G2 h).symm⟩
theorem iF(j:Nat):(1:Int)*2^((j:Int)).toNat=((2^j:Nat):Int):=by rw[Int.one_mul,Hg,Int.natCast_pow];rfl
theorem nU(a b:Nat):Builtin.bitOr (a:Int) (b:Int)=((a|||b:Nat):Int):=by
 have h:=nat_or_add_and a b;rw[bitOr_and,bitAnd_pp (by lia) (by omega)];simp only[Hg]
 lia
theorem or_eq(a j:Nat):Builtin.bitOr (a:Int) (1*2^((j:Int)).toNat)=((a||| 2^j:Nat):Int):=by rw[iF,nU]
theorem uJ(j:Int):(0:Int)<1*2^j.toNat:=by rw[Int.one_mul];exact Int.pow_pos (by decide)
theorem BG(k:Nat)(h:k<=64):((1:Int)*2^((k:Int)).toNat).natAbs.log2<9000:=by
 rw[iF,Int.natAbs_natCast,Nat.log2_two_pow]
 lia
theorem B8(c k:Nat):decide (V.int ((c:Int) / (1*2^((k:Int)).toNat) % 2)=V.int 1)=c.testBit k:=by
 have e:(c:Int) / (1*2^((k:Int)).toNat) % 2=((c / 2^k % 2:Nat):Int):=by rw[iF,Int.natCast_emod,Int.natCast_ediv];rfl
 rw[e,Nat.testBit_eq_decide_div_mod_eq,Bool.eq_iff_iff,Hj,Hj];constructor
 ·intro z;have:=V.int.inj z;omega
 ·intro z;rw[z];rfl
theorem Fe(c:Int): -(2^64)<c % (2^(64:Int).toNat)/\c % (2^(64:Int).toNat)<2^64:=by
 have e:((2:Int)^(64:Int).toNat)=18446744073709551616:=by decide
 rw[e]
 lia
theorem B5(v:Int)(n:Nat):∃z:Nat,v % (1*2^((n:Int)).toNat)=(z:Int)/\z<2^n:=by
 have h0:(0:Int)<((2^n:Nat):Int):=by have:=Nat.two_pow_pos n;omega
 refine⟨(v % ((2^n:Nat):Int)).toNat,?_,?_⟩
 ·rw[iF,Int.toNat_of_nonneg (Hs _ (by omega))]
 ·have h1:=Hz v h0;have h2:=Hs v (show((2^n:Nat):Int)≠0 by omega);omega
noncomputable def isI:V->Bool
 | .int _=>true
 |_=>false
noncomputable def isB:V->Bool
 | .bl _=>true
 |_=>false
theorem B9(K:Frag){H:Hp}{x:V}{n:String}(ty:g5 K H x (.type n)):kitOne K (.type n) (.type "int")=some (isI x||isB x):=by cases ty<;>kernel_rfl
theorem Ak(K:Frag){H:Hp}{x:V}{n:String}(ty:g5 K H x (.type n)):kitOne K (.type n) (.type "bool")=some (isB x):=by cases ty<;>kernel_rfl
theorem CZ(z:Int):∃w:Nat,1+z % 8=(w:Int)/\0<w/\w<=8:=⟨(1+z % 8).toNat,by lia,by lia,by lia⟩
def SX(l:Addr)(H H':Hp):Prop:=∀b o,b≠l->H b=some o->H' b=some o
theorem SX.refl(l:Addr)(H:Hp):SX l H H:=fun _ _ _ e=>e
theorem SX.trans{l:Addr}{H H1 H2:Hp}(a:SX l H H1)(b:SX l H1 H2):SX l H H2:=fun c o n e=>b c o n (a c o n e)
theorem SX.of{l:Addr}{H H':Hp}(a:ao H H'):SX l H H':=fun c o _ e=>a c o e
theorem SX.set{l:Addr}{H:Hp}{o:HO}:SX l H (upd H l o):=fun c u n e=>by rw[av n];exact e
theorem SX.same{l:Addr}{H H1 H2:Hp}(h:H l=none)(a:ao H H1)(b:SX l H1 H2):ao H H2:=fun c o e=>b c o (c9 e h) (a c o e)
theorem ao.set{l:Addr}{H H':Hp}{o:HO}(h:H l=none)(a:ao H H'):ao H (upd H' l o):=fun c u e=>by rw[av (c9 e h)];exact a c u e
end My
namespace LM
open PyProof.Rows
theorem kf{a b:Nat}(h:∀j,a.testBit j=b.testBit j):a=b:=Nat.eq_of_testBit_eq h
theorem Cz{a b:Nat}(h:∀j,a.testBit j=true<->b.testBit j=true):a=b:=Nat.eq_of_testBit_eq fun j=>by have:=h j;cases e1:a.testBit j<;>cases e2:b.testBit j<;>simp_all
theorem lI{a n:Nat}(h:∀j,a.testBit j=true->j<n):a<2^n:=Nat.lt_pow_two_of_testBit a fun j hj=>by
 cases e:a.testBit j with
 |false=>rfl
 |true=>have:=h j e;lia
theorem gg{c n k:Nat}(hc:c<2^n)(h:c.testBit k=true):k<n:=by
 rcases Nat.lt_or_ge k n with q|q
 ·exact q
 ·rw[Nat.testBit_lt_two_pow (Gx hc (Hb (by decide) q))]at h;cases h
theorem Cr(a b:Nat):(a&&& b)+(a^^^(a&&& b))=a:=by
 have h:=PyProof.Rows.nat_or_add_and (a&&& b) (a^^^(a&&& b));have e1:(a&&& b)|||(a^^^(a&&& b))=a:=kf fun j=>by simp only[Nat.testBit_or,Nat.testBit_xor,Hu];cases a.testBit j<;>cases b.testBit j<;>rfl
 have e2:(a&&& b)&&& (a^^^(a&&& b))=0:=kf fun j=>by simp only[Hu,Nat.testBit_xor,Nat.zero_testBit];cases a.testBit j<;>cases b.testBit j<;>rfl
 rw[e1,e2]at h
 lia
noncomputable def dif(a b:Nat):Nat:=a-(a&&& b)
theorem eO(a b j:Nat):(dif a b).testBit j=(a.testBit j&& !b.testBit j):=by
 have e:dif a b=a^^^(a&&& b):=by
  have:=Cr a b;unfold dif
  lia
 rw[e];simp only[Nat.testBit_xor,Hu];cases a.testBit j<;>cases b.testBit j<;>rfl
theorem nQ{a b n:Nat}(h:a<2^n):dif a b<2^n:=by unfold dif;omega
theorem DE{a b:Nat}(h:a&&& b=0):a|||b=a+b:=by
 have:=PyProof.Rows.nat_or_add_and a b
 lia
theorem xf(k j:Nat):(2^k).testBit j=decide (k=j):=Nat.testBit_two_pow
theorem rR{j:Nat}:∀{js:List Nat}{a:Nat},(gU a js).testBit j=true<->a.testBit j=true\/j∈js
 | [],a=>by simp[gU]
 |x::js,a=>by
  have e:gU a (x::js)=gU (a||| 2^x) js:=rfl;rw[e,rR (js:=js)];simp only[Nat.testBit_or,Bool.or_eq_true,xf,Hj,GH];constructor
  ·rintro((h|h)|h)
   ·exact .inl h
   ·exact .inr (.inl h.symm)
   ·exact .inr (.inr h)
  ·rintro(h|h|h)
   ·exact .inl (.inl h)
   ·exact .inl (.inr h.symm)
   ·exact .inr h
inductive Rch(w h c k:Nat):Nat->Prop where
 |here:c.testBit k=true->Rch w h c k k
 |step {j i:Nat}:Rch w h c k j->i∈eD w h j->c.testBit i=true->Rch w h c k i
theorem Rch.in{w h c k j:Nat}(r:Rch w h c k j):c.testBit j=true:=by
 cases r with
 |here e=>exact e
 |step _ _ e=>exact e
theorem Rch.trans{w h c k j i:Nat}(a:Rch w h c k j)(b:Rch w h c j i):Rch w h c k i:=by
 induction b with
 |here _=>exact a
 |step _ n e ih=>exact .step ih n e
theorem Rch.symm{w h c k j:Nat}(hw:0<w)(hc:c<2^(w*h))(r:Rch w h c k j):Rch w h c j k:=by
 induction r with
 |here e=>exact .here e
 |step r n e ih=>exact(Rch.step (.here e) (rW hw (gg hc r.in) n) r.in).trans ih
def cX(w h c k p:Nat):Prop:=∀j,p.testBit j=true<->Rch w h c k j
theorem cX.sub{w h c k p j:Nat}(a:cX w h c k p)(hj:p.testBit j=true):c.testBit j=true:=((a j).mp hj).in
theorem cX.at{w h c k p j:Nat}(hw:0<w)(hc:c<2^(w*h))(a:cX w h c k p)(hj:p.testBit j=true):cX w h c j p:=fun i=>by
 have r:=(a j).mp hj;constructor
 ·intro hi;exact(r.symm hw hc).trans ((a i).mp hi)
 ·intro ri;exact(a i).mpr (r.trans ri)
noncomputable def cb(c:Nat):Nat:=((List.range 64).find? c.testBit).getD 64
theorem jW{c L:Nat}(hL:L<64)(h1:c.testBit L=true)(h2:∀j,j<L->c.testBit j=false):cb c=L:=by
 unfold cb;have e:(List.range 64).find? c.testBit=some L:=by
  rw[List.find?_eq_some_iff_append];refine⟨h1,List.range L,(List.range (64-L-1)).map (fun x=>L+1+x),?_,fun j hj=>by simpa using h2 j (G7.mp hj)⟩;have:64=L+(1+(64-L-1)):=by omega
  conv=>lhs;rw[this]
  rw[List.range_add,List.range_add];simp[Nat.add_assoc]
 rw[e];rfl
theorem B6:∀(c:Nat),c≠0->∃L,c-(c&&& (c-1))=2^L/\c.testBit L=true/\∀j,j<L->c.testBit j=false:=by
 intro c
 induction c using Nat.strongRecOn with
 |_ c ih=>
  intro h0;rcases Nat.mod_two_eq_zero_or_one c with e|e
  ·obtain⟨L,h1,h2,h3⟩:=ih (c / 2) (by lia) (by lia);refine⟨L+1,?_,?_,?_⟩
   ·have ha:c&&& (c-1)=2*((c / 2)&&& (c / 2-1)):=by
     refine kf fun j=>?_;cases j with
     |zero=>rw[Hu,Nat.testBit_zero,e,Nat.testBit_zero];simp
     |succ j=>
      rw[Hu,Nat.testBit_succ,Nat.testBit_succ,Nat.testBit_succ,Nat.mul_div_cancel_left _ (by decide),Hu];congr 2
      lia
    rw[ha,Nat.pow_succ,<-h1];omega
   ·rw[Nat.testBit_succ];exact h2
   ·intro j hj;cases j with
    |zero=>rw[Nat.testBit_zero,e];rfl
    |succ j=>rw[Nat.testBit_succ];exact h3 j (by lia)
  ·refine⟨0,?_,by rw[Nat.testBit_zero,e];rfl,fun j hj=>by lia⟩;have ha:c&&& (c-1)=c-1:=by
    refine kf fun j=>?_;cases j with
    |zero=>rw[Hu,Nat.testBit_zero,e,Nat.testBit_zero];simp
    |succ j=>rw[Hu,Nat.testBit_succ,Nat.testBit_succ];have:(c-1) / 2=c / 2:=(by omega);rw[this,Bool.and_self]
   rw[ha];omega
theorem cM{c:Nat}(hc:c<2^64)(h0:c≠0):c.testBit (cb c)=true/\(∀j,j<cb c->c.testBit j=false)/\c-(c&&& (c-1))=2^cb c:=by obtain⟨L,h1,h2,h3⟩:=B6 c h0;have e:=jW (gg hc h2) h2 h3;rw[e];exact⟨h2,h3,h1⟩
theorem f9{c n:Nat}(hc:c<2^n)(hn:n<=64)(h0:c≠0):cb c<n:=gg hc (cM (Gx hc (Hb (by decide) hn)) h0).1
inductive iM(w h:Nat):Nat->List Nat->Prop where
 |nil:iM w h 0 []
 |cons {r p:Nat} {ps:List Nat}:r≠0->cX w h r (cb r) p->iM w h (dif r p) ps->iM w h r (p::ps)
def g7(w h c r:Nat):Prop:=∀j i,r.testBit j=true->i∈eD w h j->c.testBit i=true->r.testBit i=true
def Sub(r c:Nat):Prop:=∀j,r.testBit j=true->c.testBit j=true
theorem cX.of_closed{w h c r k p:Nat}(hcl:g7 w h c r)(hs:Sub r c)(hk:r.testBit k=true)(a:cX w h r k p):cX w h c k p:=fun j=>by
 rw[a j];constructor
 ·intro x
  induction x with
  |here e=>exact .here (hs _ e)
  |step _ n e ih=>exact .step ih n (hs _ e)
 ·intro x
  induction x with
  |here _=>exact .here hk
  |step _ n e ih=>exact .step ih n (hcl _ _ ih.in n e)
theorem qB{w h c r p:Nat}(hw:0<w)(hc:c<2^(w*h))(hcl:g7 w h c r)(hs:Sub r c){k:Nat}(a:cX w h c k p):g7 w h c (dif r p):=fun j i hj hn hi=>by
 rw[eO,HY]at hj ⊢;refine⟨hcl j i hj.1 hn hi,?_⟩;cases e:p.testBit i with
 |false=>rfl
 |true=>have:p.testBit j=true:=(a j).mpr (.step ((a i).mp e) (rW hw (gg hc (hs j hj.1)) hn) (hs j hj.1));rw[this]at hj;cases hj.2
theorem wZ{c r p:Nat}(hs:Sub r c):Sub (dif r p) c:=fun j hj=>by rw[eO,HY]at hj;exact hs j hj.1
theorem qx{w h r p:Nat}(hr:r<2^64)(h0:r≠0)(a:cX w h r (cb r) p):p≠0/\cb p=cb r/\p.testBit (cb r)=true:=by
 obtain⟨h1,h2,_⟩:=cM hr h0;have hp:p.testBit (cb r)=true:=(a _).mpr (.here h1);refine⟨fun z=>by rw[z]at hp;simp at hp,jW (gg hr h1) hp fun j hj=>?_,hp⟩;cases e:p.testBit j with
 |false=>rfl
 |true=>rw[<-h2 j hj,a.sub e]
theorem iM.mem{w h c:Nat}(hw:0<w)(hc:c<2^(w*h))(h64:w*h<=64){r:Nat}{ps:List Nat}(a:iM w h r ps):g7 w h c r->Sub r c->
  (∀p∈ps,∀k,p.testBit k=true->cX w h c k p)/\∀k,r.testBit k=true->∃p∈ps,p.testBit k=true:=by
 induction a with
 |nil=>exact fun _ _=>⟨fun p hp=>by simp at hp,fun k hk=>by simp at hk⟩
 | @cons r p ps z cp _ ih=>
  intro hcl hs;have hr:r<2^64:=Gx (lI fun j hj=>gg hc (hs j hj)) (Hb (by decide) h64);have cc:=cp.of_closed hcl hs (cM hr z).1;obtain⟨i1,i2⟩:=ih (qB hw hc hcl hs cc) (wZ hs);refine⟨fun q hq k hk=>?_,fun k hk=>?_⟩
  ·rcases GH.mp hq with rfl|hq
   ·exact cc.at hw hc hk
   ·exact i1 q hq k hk
  ·cases e:p.testBit k with
   |true=>exact⟨p,Gy,e⟩
   |false=>obtain⟨q,hq,hk'⟩:=i2 k (by rw[eO,hk,e];rfl);exact⟨q,Gs _ hq,hk'⟩
theorem iM.len{w h r:Nat}{ps:List Nat}(a:iM w h r ps):∀{n:Nat},n<=64->r<2^n->ps.length<=n:=by
 suffices hh:∀(m:Nat),(∀j,j<m->r.testBit j=false)->∀{n:Nat},n<=64->r<2^n->ps.length+m<=max n m by
  intro n hn hr;have:=hh 0 (fun j hj=>by omega) hn hr
  lia
 induction a with
 |nil=>intro m _ n _ _;simp;lia
 | @cons r p ps z cp _ ih=>
  intro m hm n hn hr;have hr64:r<2^64:=Gx hr (Hb (by decide) hn);obtain⟨l1,l2,_⟩:=cM hr64 z;have hl:m<=cb r:=by
   rcases Nat.lt_or_ge (cb r) m with q|q
   ·rw[hm _ q]at l1;cases l1
   ·exact q
  have hln:=f9 hr hn z;have hp:=(qx hr64 z cp).2.2
  have:=ih (cb r+1) (fun j hj=>by
   rw[eO];rcases Nat.lt_or_ge j (cb r)with q|q
   ·rw[l2 j q];rfl
   ·have:j=cb r:=by lia
    rw[this,hp,Bool.not_true,Bool.and_false]) hn (nQ hr)
  rw[GV]
  lia
end LM
namespace My
open PySem L2 LM PyProof.Rows
theorem jb(a b:Nat):Builtin.bitAnd (a:Int) (Builtin.bitNot (b:Int))=((dif a b:Nat):Int):=by
 rw[PyProof.Rows.bitAnd_not,fb];have:=Nat.and_le_left (n:=a) (m:=b);unfold dif
 lia
theorem AY(L:Nat):Builtin.Int.intBits ((2^L:Nat):Int)=L+1:=by unfold Builtin.Int.intBits;have h0:2^L≠0:=Nat.ne_of_gt (Nat.two_pow_pos L);rw[Gu (fun z=>h0 (by have:=eq_of_beq z;lia)),Int.natAbs_natCast,Nat.log2_two_pow]
theorem Af{c:Nat}(hc:c<2^64)(h0:c≠0):((Builtin.Int.intBits (Builtin.bitAnd (c:Int) (-(c:Int))):Nat):Int)-1=((cb c:Nat):Int):=by
 have e: -(c:Int)=Builtin.bitNot ((c-1:Nat):Int):=by
  unfold Builtin.bitNot
  lia
 have h:=(cM hc h0).2.2;rw[e,jb];unfold dif;rw[h,AY]
 lia
theorem Cq{r p:Nat}(hs:Sub p r):p+dif r p=r:=by
 have e:r&&& p=p:=kf fun j=>by
  rw[Hu];cases z:p.testBit j with
  |false=>rw[Bool.and_false]
  |true=>rw[hs j z];rfl
 have h1:p<=r:=by rw[<-e];exact Nat.and_le_left
 unfold dif;rw[e]
 lia
theorem and_zero{a b:Nat}(h:∀j,a.testBit j=true->b.testBit j=false):a&&& b=0:=kf fun j=>by
 rw[Hu,Nat.zero_testBit];cases z:a.testBit j with
 |false=>rfl
 |true=>rw[h j z];rfl
noncomputable abbrev NV(L:List Nat):List V:=L.map fun k:Nat=>V.int (k:Int)
theorem fK(a b:List Nat):NV (a++b)=NV a++NV b:=GK
theorem nN{K:Frag}{H:Hp}:∀(l:List Nat),ff K H (l.map fun k:Nat=>PyData.int (k:Int)) (NV l)
 | []=>.nil
 |x::l=>.cons (.int x) (nN l)
theorem u7:∀(l:List Nat),PyData.canLayAll0 (l.map fun k:Nat=>PyData.int (k:Int))=true
 | []=>rfl
 |x::l=>by show(PyData.canLay0 (.int x)&&PyData.canLayAll0 (l.map _))=true;rw[u7 l];rfl
end My
namespace L2
open PySem PySem.Spec PyProof.Rows
section
variable{X:Cx}{K:Frag}
theorem jL(h:X.K=K):IxR X (E3 K):=h▸bD
theorem fN(h:X.K=K):IxR X (E2 K):=h▸aL
theorem kK(h:X.K=K):fE X (.builtin "len") (fun xs H Q=>∃p ys,xs=[.ref p]/\(SqL K H p ys\/SqT K H p ys)/\Q (.int ys.length) H):=h▸bo
end
theorem Ce{K:Frag}{h:Heap}{mg:Str->Option Value}{x:Str}{i:Int}{t:Tok}(X:K.In h)(G:h.Ns mainGlobals mg)(a:nsIn K mainGlobals x=some (some (.int i t))):∃t,mg x=some (.int i t):=⟨t,PySem.W.mg_of X G a⟩
theorem kJ{n:Nat}{g:TG}{tt:TT}{te:TE}{σ0:St}{lo:Int}{Q:Hp->Prop}{D:Addr}{H:Hp}(Pv:Nat->List V->Hp->Prop)(h0:Pv 0 [] H)
  (hs:∀i acc H2,i<n->Pv i acc H2->g (.int (lo+i)) σ0 H2 fun σ2 H4=>tt σ2 H4 fun b H5=>if b=true then te σ2 H5 fun y H6=>H6 D=some (.lst acc)/\acc.length<sizeLine/\Pv (i+1) (acc++[y]) (upd H6 D (.lst (acc++[y])))else Pv (i+1) acc H5)
  (hd:∀acc H2,Pv n acc H2->Q H2):
  ∃W:Nat->Nat->List V->Hp->Prop,(∃m,W 0 m [] H)/\∀i m acc H2,W i m acc H2->
   ((Itr lo n).stop i H2/\Q H2)\/((Itr lo n).go i H2/\∃N:List V->Hp->Prop,(∀acc' H',N acc' H'->∃m',m'<m/\W (i+1) m' acc' H')/\∀x H3,(Itr lo n).yld i H2 x H3->g x σ0 H3 fun σ2 H4=>tt σ2 H4 fun b H5=>if b=true then te σ2 H5 fun y H6=>H6 D=some (.lst acc)/\acc.length<sizeLine/\N (acc++[y]) (upd H6 D (.lst (acc++[y])))else N acc H5):=
 wI (Q:=fun _ H=>Q H) Pv h0 hs hd
theorem vw{K:Frag}{a:Addr}{xs:List V}{g:TG}{tt:TT}{te:TE}{σ0:St}{Q:Hp->Prop}{D:Addr}{H:Hp}(Pv:Nat->List V->Hp->Prop)(h0:Pv 0 [] H)(hl:∀i acc H,i<=xs.length->Pv i acc H->SqL K H a xs)
  (hs:∀i x acc H2,xs[i]?=some x->Pv i acc H2->g x σ0 H2 fun σ2 H4=>tt σ2 H4 fun b H5=>if b=true then te σ2 H5 fun y H6=>H6 D=some (.lst acc)/\acc.length<sizeLine/\Pv (i+1) (acc++[y]) (upd H6 D (.lst (acc++[y])))else Pv (i+1) acc H5)
  (hd:∀acc H2,Pv xs.length acc H2->Q H2):
  ∃W:Nat->Nat->List V->Hp->Prop,(∃m,W 0 m [] H)/\∀i m acc H2,W i m acc H2->
   ((Itl K a).stop i H2/\Q H2)\/((Itl K a).go i H2/\∃N:List V->Hp->Prop,(∀acc' H',N acc' H'->∃m',m'<m/\W (i+1) m' acc' H')/\∀x H3,(Itl K a).yld i H2 x H3->g x σ0 H3 fun σ2 H4=>tt σ2 H4 fun b H5=>if b=true then te σ2 H5 fun y H6=>H6 D=some (.lst acc)/\acc.length<sizeLine/\N (acc++[y]) (upd H6 D (.lst (acc++[y])))else N acc H5):=
 yQ (Q:=fun _ H=>Q H) Pv h0 hl hs hd
section
variable{κ:Type}[DecidableEq κ]
noncomputable def fo(kvs:List (κ×V))(k:κ):Option V:=(kvs.find? fun kv=>decide (kv.1=k)).map (·.2)
noncomputable def putK(kvs:List (κ×V))(k:κ)(v:V):List (κ×V):=
 if(kvs.any fun kv=>decide (kv.1=k))=true then kvs.map (fun kv=>if kv.1=k then(kv.1,v)else kv)else kvs++[(k,v)]
theorem dj{p:κ×V}{r:List (κ×V)}{k:κ}(e:p.1=k):fo (p::r) k=some p.2:=by simp[fo,G9,e]
theorem dq{p:κ×V}{r:List (κ×V)}{k:κ}(e:¬p.1=k):fo (p::r) k=fo r k:=by simp[fo,G9,e]
theorem jo(k:κ):∀kvs:List (κ×V),(kvs.any fun kv=>decide (kv.1=k))=(fo kvs k).isSome
 | []=>rfl
 |p::r=>by
  rw[List.any_cons];by_cases e:p.1=k
  ·simp only[dj e,GN e,Bool.true_or,Option.isSome_some]
  ·rw[dq e,GZ e,Bool.false_or];exact jo k r
theorem uy(k j:κ)(y:V):∀kvs:List (κ×V),fo (kvs.map fun kv=>if kv.1=k then(kv.1,y)else kv) j=(fo kvs j).map fun x=>if j=k then y else x
 | []=>rfl
 |p::r=>by
  have ih:=uy k j y r;rw[GC];by_cases h:p.1=k
  ·rw[Gz h];by_cases e:p.1=j
   ·rw[dj (p:=(p.1,y)) e,dj e,Option.map_some,Gz (e.symm.trans h)]
   ·rw[dq (p:=(p.1,y)) e,dq e,ih]
  ·rw[Gu h];by_cases e:p.1=j
   ·rw[dj (p:=p) e,dj e,Option.map_some,Gu (fun z=>h (e.trans z))]
   ·rw[dq (p:=p) e,dq e,ih]
theorem rD(k j:κ)(y:V):∀kvs:List (κ×V),fo kvs k=none->fo (kvs++[(k,y)]) j=if j=k then some y else fo kvs j
 | [],_=>by
  by_cases e:k=j
  ·rw[Gz e.symm];exact dj (p:=(k,y)) e
  ·rw[Gu (fun z=>e z.symm)];exact dq (p:=(k,y)) e
 |p::r,hn=>by
  rw[List.cons_append];have hk:¬p.1=k:=fun z=>by rw[dj z]at hn;cases hn
  rw[dq hk]at hn;have ih:=rD k j y r hn;by_cases e:p.1=j
  ·rw[dj e,dj e,Gu (fun z=>hk (e.trans z))]
  ·rw[dq e,dq e,ih]
theorem zj(kvs:List (κ×V))(k j:κ)(y:V):fo (putK kvs k y) j=if j=k then some y else fo kvs j:=by
 unfold putK;by_cases a:(kvs.any fun kv=>decide (kv.1=k))=true
 ·rw[Gz a,uy];rw[jo]at a;by_cases e:j=k
  ·obtain⟨x,hx⟩:=Option.isSome_iff_exists.mp a;rw[Gz e,e,hx,Option.map_some,Gz rfl]
  ·rw[Gu e];cases fo kvs j with
   |none=>rfl
   |some x=>rw[Option.map_some,Gu e]
 ·rw[Gu a];refine rD k j y kvs ?_;rw[jo]at a;cases q:fo kvs k with
  |none=>rfl
  |some x=>rw[q]at a;exact(a rfl).elim
theorem oE(kvs:List (κ×V))(k:κ)(v:V):(putK kvs k v).length<=kvs.length+1:=by
 unfold putK;split
 ·rw[Gh];lia
 ·rw[Gn,GV,List.length_nil];lia
theorem uH{kvs:List (κ×V)}{k:κ}(v:V)(h:fo kvs k=none):putK kvs k v=kvs++[(k,v)]:=by unfold putK;rw[jo,h];exact Gu (by decide)
theorem iq.isSome_eq{o:Option V}{u:Option Value}(r:iq o u):o.isSome=u.isSome:=by
 cases o with
 |none=>cases u with
  |none=>rfl
  |some _=>exact(show False from r).elim
 |some _=>cases u with
  |none=>exact(show False from r).elim
  |some _=>rfl
theorem KV.val{kvs:List (κ×V)}{vs:List (κ×Value)}(r:KV kvs vs)(k:κ):iq (fo kvs k) (valueAt vs k):=by
 unfold KV at r
 induction r with
 |nil=>exact True.intro
 | @cons p q ps qs h t ih=>
  obtain⟨h1,h2⟩:=h;by_cases e:p.1=k
  ·have e':q.1=k:=h1.symm.trans e;have b:valueAt (q::qs) k=some q.2:=(by simp[valueAt,G9,e']);rw[dj e,b];exact h2
  ·have e':¬q.1=k:=fun z=>e (h1.trans z);have b:valueAt (q::qs) k=valueAt qs k:=(by simp[valueAt,G9,e']);rw[dq e,b];exact ih
theorem KV.any{kvs:List (κ×V)}{vs:List (κ×Value)}(r:KV kvs vs)(k:κ):(kvs.any fun kv=>decide (kv.1=k))=vs.any fun kv=>decide (kv.1=k):=by
 unfold KV at r
 induction r with
 |nil=>rfl
 |cons h t ih=>rw[List.any_cons,List.any_cons,ih,h.1]
theorem KV.repl{kvs:List (κ×V)}{vs:List (κ×Value)}(r:KV kvs vs)(k:κ){y:V}{u:Value}(ry:RelV y u):
  KV (kvs.map fun kv=>if kv.1=k then(kv.1,y)else kv) (vs.map fun kv=>if kv.1=k then(kv.1,u)else kv):=by
 unfold KV at r ⊢
 induction r with
 |nil=>exact .nil
 | @cons p q ps qs h t ih=>
  rw[GC,GC];refine .cons ?_ ih;obtain⟨h1,h2⟩:=h;by_cases e:p.1=k
  ·rw[Gz e,Gz (h1.symm.trans e)];exact⟨h1,ry⟩
  ·rw[Gu e,Gu (fun z=>e (h1.trans z))];exact⟨h1,h2⟩
theorem KV.put{kvs:List (κ×V)}{vs:List (κ×Value)}(r:KV kvs vs)(k:κ){y:V}{u:Value}(ry:RelV y u):KV (putK kvs k y) (stored vs k u):=by
 unfold putK stored;rw[r.any k];by_cases e:(vs.any fun kv=>decide (kv.1=k))=true
 ·rw[Gz e,Gz e];exact r.repl k ry
 ·rw[Gu e,Gu e];exact Paired.snoc r ⟨rfl,ry⟩
theorem KV.length{kvs:List (κ×V)}{vs:List (κ×Value)}(r:KV kvs vs):kvs.length=vs.length:=Gw r
end
theorem Ap{P:Program}{w:World}{k:Key}{u:Value}(r:RelV (kV k) u):(bx P w).is k u=true:=by
 cases k with
 |inl i=>obtain⟨t,e⟩:=(show ∃t,u=Value.int i t from r);subst e;exact uY P w i t
 |inr x=>obtain⟨t,e⟩:=(show ∃t,u=Value.str x t from r);subst e;exact uX P w x t
theorem nL{P:Program}{w:World}:∀{ks:List Key}{us:List Value},Vals (ks.map kV) us->ItemsAre (bx P w) ks us
 | [],_,r=>by rw[List.map_nil]at r;cases r;exact .nil
 |k::ks,_,r=>by
  rw[GC]at r;cases r with
  |cons h t=>exact .cons (Ap h) (nL t)
abbrev KT(H:Hp):List (List Key×V)->List (List Key×Addr×Value)->Prop:=Paired fun p q=>p.1=q.1/\H q.2.1=some (.tup (p.1.map kV))/\RelV p.2 q.2.2
theorem KT.val{H:Hp}{kvs:List (List Key×V)}{xs:List (List Key×Addr×Value)}(r:KT H kvs xs)(k:List Key):iq (fo kvs k) ((atKey xs k).map (·.2)):=by
 induction r with
 |nil=>exact True.intro
 | @cons p q ps qs h t ih=>
  obtain⟨h1,_,h2⟩:=h;by_cases e:p.1=k
  ·have e':q.1=k:=h1.symm.trans e;have b:atKey (q::qs) k=some q.2:=(by simp[atKey,G9,e']);rw[dj e,b];exact h2
  ·have e':¬q.1=k:=fun z=>e (h1.trans z);have b:atKey (q::qs) k=atKey qs k:=(by simp[atKey,G9,e']);rw[dq e,b];exact ih
theorem KT.repl{H:Hp}{kvs:List (List Key×V)}{xs:List (List Key×Addr×Value)}(r:KT H kvs xs)(k:List Key){y:V}{u:Value}(ry:RelV y u):
  KT H (kvs.map fun kv=>if kv.1=k then(kv.1,y)else kv) (xs.map (putAt k u)):=by
 induction r with
 |nil=>exact .nil
 | @cons p q ps qs h t ih=>
  rw[GC,GC];refine .cons ?_ ih;obtain⟨h1,h2,h3⟩:=h;unfold putAt;by_cases e:p.1=k
  ·rw[Gz e,Gz (h1.symm.trans e)];exact⟨h1,h2,ry⟩
  ·rw[Gu e,Gu (fun z=>e (h1.trans z))];exact⟨h1,h2,h3⟩
theorem KT.put{H:Hp}{kvs:List (List Key×V)}{xs:List (List Key×Addr×Value)}(r:KT H kvs xs)(k:List Key){b:Addr}{y:V}{u:Value}(hb:H b=some (.tup (k.map kV)))(ry:RelV y u):
  KT H (putK kvs k y) (storedH xs k b u):=by
 have e:(kvs.any fun kv=>decide (kv.1=k))=(atKey xs k).isSome:=by rw[jo,(r.val k).isSome_eq,Option.isSome_map]
 unfold putK storedH;rw[e];by_cases q:(atKey xs k).isSome=true
 ·rw[Gz q,Gz q];exact r.repl k ry
 ·rw[Gu q,Gu q];exact Paired.snoc r ⟨rfl,hb,ry⟩
theorem KT.keeps{H H':Hp}{kvs:List (List Key×V)}{xs:List (List Key×Addr×Value)}(r:KT H kvs xs)(ht:∀b ys,H b=some (.tup ys)->H' b=some (.tup ys)):KT H' kvs xs:=
 Paired.mapP r fun _ _ z=>⟨z.1,ht _ _ z.2.1,z.2.2⟩
section
variable{P:Program}{w:World}{H:Hp}{h:Heap}{a:Addr}
theorem CO{u:HO}(ok:HOk P w H h)(e:Rd H a u):b9 P w H h a u:=e.ok ok
theorem AH{kvs:List (Key×V)}(ok:HOk P w H h)(e:Rd H a (.dK kvs)):kvs.length<=sizeLine/\(a==sysModules)=false/\∃vs,KV kvs vs/\h.DictOf (bx P w) a vs:=
 show b9 P w H h a (.dK kvs)from CO ok e
theorem Fp{kvs:List (Key×V)}(ok:HOk P w H h)(e:H a=some (.dK kvs)):kvs.length<=sizeLine/\(a==sysModules)=false/\∃vs,KV kvs vs/\h.DictOf (bx P w) a vs:=AH ok (.inl e)
theorem wx{ks:List Key}(ok:HOk P w H h)(e:H a=some (.tup (ks.map kV))):(tupleKind (bx P w)).is h ks a:=by obtain⟨_,its,r,o,h1,h2,n,h3⟩:=(show b9 P w H h a (.tup (ks.map kV))from ok a _ e);exact⟨o,its.toArray,n,h1,h2,h3,by simpa using nL r⟩
theorem AE{kvs:List (List Key×V)}(ok:HOk P w H h)(e:Rd H a (.dT kvs)):kvs.length<=sizeLine/\(a==sysModules)=false/\
  ∃xs,KT H kvs xs/\h.DictOfH (tupleKind (bx P w)) a xs:=by
 obtain⟨z,y,xs,r,o,es,ep,h1,h2,h3,h4,h5⟩:=(show b9 P w H h a (.dT kvs)from CO ok e);refine⟨z,y,xs,r,o,es,ep,h1,h2,h3,h4,fun x hx=>?_,h5⟩;have all:∀{l:List (List Key×V)}{m:List (List Key×Addr×Value)},KT H l m->∀x∈m,(tupleKind (bx P w)).is h x.1 x.2.1:=by
  intro l m q
  induction q with
  |nil=>intro x hx;exact nomatch hx
  | @cons p q ps qs hq t ih=>
   intro x hx;rcases GH.mp hx with e|hx
   ·subst e;exact wx ok (by rw[<-hq.1];exact hq.2.1)
   ·exact ih x hx
 exact all r x hx
theorem Fo{kvs:List (List Key×V)}(ok:HOk P w H h)(e:H a=some (.dT kvs)):kvs.length<=sizeLine/\(a==sysModules)=false/\
 ∃xs,KT H kvs xs/\h.DictOfH (tupleKind (bx P w)) a xs:=AE ok (.inl e)
end
def rA(H:Hp)(a:Addr)(y:V)(r:Option V):Prop:=
 (∃kvs k,Rd H a (.dK kvs)/\y=kV k/\r=fo kvs k)\/∃kvs k b,Rd H a (.dT kvs)/\y=.ref b/\H b=some (.tup (k.map kV))/\r=fo kvs k
def uw(H:Hp)(a:Addr)(y v:V)(H':Hp):Prop:=
 (∃kvs k,H a=some (.dK kvs)/\y=kV k/\kvs.length<sizeLine/\H'=upd H a (.dK (putK kvs k v)))\/
 ∃kvs k b,H a=some (.dT kvs)/\y=.ref b/\H b=some (.tup (k.map kV))/\kvs.length<sizeLine/\H'=upd H a (.dT (putK kvs k v))
theorem rA.k{H:Hp}{a:Addr}{kvs:List (Key×V)}{k:Key}(e:H a=some (.dK kvs)):rA H a (kV k) (fo kvs k):=.inl ⟨kvs,k,.inl e,rfl,rfl⟩
theorem uw.k{H:Hp}{a:Addr}{kvs:List (Key×V)}{k:Key}{v:V}(e:H a=some (.dK kvs))(hl:kvs.length<sizeLine):uw H a (kV k) v (upd H a (.dK (putK kvs k v))):=.inl ⟨kvs,k,e,rfl,hl,rfl⟩
section
variable{X:Cx}{pins:List (Addr×Obj)}{σ:St}{H:Hp}{s:Shared}{a:Addr}{y v:V}{u r:Value}{o:Option V}{A:Around}{E:Value->Shared->Prop}
theorem Inv.big(I:Inv X pins σ H s):sysModules<s.heap.objs.size:=by have h:mainGlobals<s.heap.objs.size:=(I.mod.glob.keeps I.bk).lt;exact Nat.lt_trans (by decide) h
theorem yP{Q:Value->Shared->Prop}(hu:A.units+1<cLine)(I:Inv X pins σ H s)(g:rA H a y (some v))(ry:RelV y u)(h:∀w' s',Inv X pins σ H s'->RelV v w'->Q w' s'):
  wpAny (model X.prog X.w) A (getItem (.ref a) u) Q E s:=by
 rcases g with⟨kvs,k,e,ey,l⟩|⟨kvs,k,b,e,ey,eb,l⟩
 ·subst ey;obtain⟨z,hd,vs,rel,dd⟩:=AH I.hok e;obtain⟨w',hw,rw'⟩:=iq.some_of (v:=v) (o:=valueAt vs k) (by rw[l];exact rel.val k);exact wpAny_getItem_of (Ap ry) dd.mapOf hw (h w' _ (I.tok _) rw')
 ·subst ey;cases (show u=Value.ref b from ry);obtain⟨z,hd,xs,rel,dd⟩:=AE I.hok e;obtain⟨w',hw,rw'⟩:=iq.some_of (v:=v) (o:=(atKey xs k).map (·.2)) (by rw[l];exact rel.val k);obtain⟨p,hp,hp2⟩:=Option.map_eq_some_iff.mp hw;refine wpAny_getItem_heap (tupleKind_room_in1 hu) (wx I.hok eb) dd hp ?_;rw[hp2];exact h w' _ (I.tok _) rw'
theorem uf{h':Heap}{t':Nat}{ob:HO}(I:Inv X pins σ H s)(mu:Mut (H a))(hs:Heap.SameBut a s.heap h')(he:∃q,h'.get? a=some q)(new:b9 X.prog X.w (upd H a ob) h' a ob):
  Inv X pins σ (upd H a ob) {s with heap:=h',toks:=t'}:=
 I.write (x:=a) (e:=a) mu (.inl rfl) (fun b q hb z=>(hs.2 b hb).trans z) he new
theorem Ee{P:Program}{w:World}{H':Hp}{h':Heap}{kvs:List (Key×V)}{vs:List (Key×Value)}(z:kvs.length<=sizeLine)(hd:(a==sysModules)=false)(rel:KV kvs vs)(dd:h'.DictOf (bx P w) a vs):
 b9 P w H' h' a (.dK kvs):=⟨z,hd,vs,rel,dd⟩
theorem yO{H':Hp}{Q:Unit->Shared->Prop}(hu:A.units+1<cLine)(I:Inv X pins σ H s)(g:uw H a y v H')(ry:RelV y u)(rv:RelV v r)(h:∀s',Inv X pins σ H' s'->Q () s'):
  wpAny (model X.prog X.w) A (setItem (.ref a) u r) Q E s:=by
 rcases g with⟨kvs,k,e,ey,l,eH⟩|⟨kvs,k,b,e,ey,eb,l,eH⟩
 ·subst ey eH;obtain⟨z,hd,vs,rel,dd⟩:=Fp I.hok e;have hz:vs.length<=sizeLine:=by rw[<-rel.length];exact z
  have hl:(putK kvs k v).length<=sizeLine:=by have:=oE kvs k v;lia
  refine wpAny_setItem_pairs (hsz:=hz) (Ap ry) dd fun h' dd' hs=>h _ ?_;have he:∃q,h'.get? a=some q:=let ⟨q,_,_,hq,_⟩:=dd';⟨q,hq⟩;exact uf I (by rw[e];exact True.intro) hs he (Ee hl hd (rel.put k rv) dd')
 ·subst ey eH;cases (show u=Value.ref b from ry);obtain⟨z,hd,xs,rel,dd⟩:=Fo I.hok e;have hz:xs.length<=sizeLine:=by rw[<-Gw rel];exact z
  have hl:(putK kvs k v).length<=sizeLine:=by have:=oE kvs k v;lia
  refine wpAny_setItem_heap (hsz:=hz) (tupleKind_room_in1 hu) (wx I.hok eb) dd fun h' dd' hs=>h _ ?_;obtain⟨q,es,ep,hq,h2,h3,h4,_,h5⟩:=dd';refine uf I (by rw[e];exact True.intro) hs ⟨q,hq⟩ ⟨hl,hd,_,(rel.put k eb rv).keeps fun c ys ec=>?_,q,es,ep,hq,h2,h3,h4,h5⟩;rw[av (jj ec e (fun z=>nomatch z))];exact ec
end
def CG(i:Expr):Prop:=∀ov iv,subscripted i false ov iv=operate [ov,iv] (getItem ov iv)
theorem w4{prog:Program}{w:World}{A:Around}{E:Value->Shared->Prop}{s:Shared}{env:Env}{value slice:Expr}{pos:Pos}{T id:String}{Q:Value->Shared->Prop}
  (hl:typeLookup (.type T) "__getitem__"=pure (some (.builtin id))) (hs:CG slice)
  (h:wpAny (model prog w) A (eval value env) (fun o s₁=>wpAny (model prog w) A (eval slice env) (fun i s₂=>s₂.TypeIs o T/\wpAny (model prog w) A (getItem o i) Q E s₂) E s₁) E s):
  wpAny (model prog w) A (eval (.Subscript value slice pos) env) Q E s:=by
 refine Subscript_ (Ha h (fun o s₁ h₁=>Ha h₁ (fun i s₂ h₂=>?_) fun _ _ x=>x) fun _ _ x=>x);obtain⟨hT,h₂⟩:=h₂;unfold subscriptTail;refine Gg ?_;rw[getitemInPython_of_ne hT.not_modules];refine Gg (wpAny_specialOf hT hl ?_);have fin:wpAny (model prog w) A (subscripted slice false o i) (fun r s₃=>wpAny (model prog w) A (letTemporaryGo value o r>>= fun _=>pure r) Q E s₃) E s₂:=by rw[hs o i];exact wpAny_operating (Ha h₂ (fun r s₃ h₃=>Gg (wpAny_letTemporaryGo (Gj h₃))) fun _ _ x=>x)
 first
  |exact Gj (Gg fin)
  |exact Gg (Gj (Gg fin))
  |exact Gg fin
theorem vq{X:Cx}{pins:List (Addr×Obj)}{σ:St}{H:Hp}{s:Shared}{a:Addr}{y:V}{o:Option V}(I:Inv X pins σ H s)(g:rA H a y o):s.TypeIs (.ref a) "dict":=by
 rcases g with⟨kvs,k,e,_,_⟩|⟨kvs,k,b,e,_,_,_⟩
 ·obtain⟨_,_,vs,_,dd⟩:=AH I.hok e;exact dd.typeIs
 ·obtain⟨_,_,xs,_,dd⟩:=AE I.hok e;exact dd.typeIs
def ES(td ty:TE):TE:=fun σ H Q=>td σ H fun x H1=>ty σ H1 fun y H2=>∃a v,x=.ref a/\rA H2 a y (some v)/\Q v H2
def EY(td ty tv:TE):TS:=fun D σ H=>tv σ H fun v H1=>td σ H1 fun x H2=>ty σ H2 fun y H3=>∃a H4,x=.ref a/\uw H3 a y v H4/\D.nx σ H4
section
variable{X:Cx}{o i e value:Expr}{pos pos' tpos:Pos}{td ty tv:TE}
theorem mG(hu:X.A.units+1<cLine)(ho:PE X o td)(hi:PE X i ty)(hs:CG i):PE X (.Subscript o i pos) (ES td ty):=by intro pins s σ H Q I h;refine w4 PySem.F.slot_dict_getitem.lookup hs (thn (ho pins s σ H _ I h) fun u s1 hPz=>L2.ep3 hPz fun x H1 I1 rx q1=>thn (hi pins s1 σ H1 _ I1 q1) fun iv s2 hPz=>?_);obtain⟨y,H2,I2,ry,a,v,ex,g,q2⟩:=hPz;subst ex;obtain rfl:u=Value.ref a:=rx;exact⟨vq I2 g,yP hu I2 g ry fun w' s3 I3 rw'=>⟨v,H2,I3,rw',q2⟩⟩
theorem mD(hu:X.A.units+1<cLine)(ho:PE X o td)(hi:PE X i ty)(hv:PE X value tv)(hs:swapsWith value (some (.Subscript o i pos')) pos.line X.env=pure false):
  PS X (.Assign [.Subscript o i pos'] value pos) (EY td ty tv):=by
 intro pins s σ H D I h;refine wpAny_Assign_Subscript (thn (hv pins s σ H _ I h) fun r s1 hPz=>L2.ep3 hPz fun v H1 I1 rv q1=>thn (ho pins s1 σ H1 _ I1 q1) fun u s2 hPz=>L2.ep3 hPz fun x H2 I2 rx q2=>thn (hi pins s2 σ H2 _ I2 q2) fun iv s3 hPz=>?_) hs;obtain⟨y,H3,I3,ry,a,H4,ex,g,q3⟩:=hPz;subst ex;obtain rfl:u=Value.ref a:=rx;exact yO hu I3 g ry rv fun s4 I4=>⟨σ,H4,I4,q3⟩
end
theorem AI{P:Program}{w:World}{H:Hp}(h:Heap)(hb:sysModules<h.objs.size):b9 P w H (h.push {cls:=.type "dict",data:=.dict #[]}) h.objs.size (.dK []):=
 ⟨G1 _,beq_eq_false_iff_ne.mpr (HB (G5 hb)),[],.nil,Heap.DictOf.new h⟩
def Dk:TE:=fun _ H Q=>∀p,H p=none->Q (.ref p) (upd H p (.dK []))
section
variable{X:Cx}{pos:Pos}
theorem mF:PE X (.Dict [] [] pos) Dk:=fun pins s σ H Q I h=>wpAny_Dict_empty ⟨.ref s.heap.objs.size,_,I.laid (a:=s.heap.objs.size) (o:=.dK []) (t':=s.toks) (fun _ _ q=>Gi _ q) (Gr _) (AI s.heap I.big),rfl,h _ (I.hok.fresh (Gr _))⟩
end
structure M2(X:Cx)(o:Expr)(m:Str)(apos:Pos)(e f:Expr)(cpos:Pos):Prop where
 base:attributeBase o m X.env (eval o X.env)=eval o X.env
 few:((backTo cpos (starEach [e,f] X.env)).all (fun x=> !x.1)&&(backToKw cpos (keywordEach [] X.env)).all (fun x=>x.1.isSome)
  &&decide (([e,f]:List Expr).length+([]:List Keyword).length+(if([]:List Keyword).isEmpty then 0 else 1)<30))=true
 line:(apos.endLine==cpos.line)=true
 trees:backTo cpos (starEach [e,f] X.env)=[(false,eval e X.env),(false,eval f X.env)]
theorem jG{α β:Type}{R:α->β->Prop}{b c:List β}(p:b.Perm c):∀{a:List α},Paired R a b->∃d,a.Perm d/\Paired R d c:=by
 induction p with
 |nil=>intro a h;cases h;exact⟨[],.refl _,.nil⟩
 |cons x _ ih=>
  intro a h;cases h with
  |cons r t=>obtain⟨d,h1,h2⟩:=ih t;exact⟨_,h1.cons _,.cons r h2⟩
 |swap x y l=>
  intro a h;cases h with
  |cons r t=>
   cases t with
   |cons r2 t2=>exact⟨_,List.Perm.swap _ _ _,.cons r2 (.cons r t2)⟩
 |trans _ _ ih1 ih2=>intro a h;obtain⟨d,h1,h2⟩:=ih1 h;obtain⟨e,h3,h4⟩:=ih2 h2;exact⟨e,h1.trans h3,h4⟩
theorem vX{xs:List V}{us:List Value}(r:Vals xs us):∀(kz:List Int),Paired (fun(p:Int×V) (q:Int×Value)=>p.1=q.1/\RelV p.2 q.2) (kz.zip xs) (kz.zip us):=by
 induction r with
 |nil=>intro kz;simp;exact .nil
 |cons h _ ih=>
  intro kz;cases kz with
  |nil=>exact .nil
  |cons k kz=>exact .cons ⟨rfl,h⟩ (ih kz)
theorem vY{ps:List (Int×V)}{qs:List (Int×Value)}(r:Paired (fun(p:Int×V) (q:Int×Value)=>p.1=q.1/\RelV p.2 q.2) ps qs):Vals (ps.map (·.2)) (qs.map (·.2))/\ps.map (·.1)=qs.map (·.1):=by
 induction r with
 |nil=>exact⟨.nil,rfl⟩
 |cons h _ ih=>exact⟨.cons h.2 ih.1,by rw[GC,GC,h.1,ih.2]⟩
def A0(kz:List Int)(xs out:List V):Prop:=∃ps:List (Int×V),ps.Perm (kz.zip xs)/\out=ps.map (·.2)/\(ps.map (·.1)).Pairwise (·<=·)
theorem Bw{kz:List Int}{xs:List V}{vs out:List Value}(r:Vals xs vs)(h:KskOut false kz vs out):∃ys,Vals ys out/\A0 kz xs ys:=by obtain⟨ps,hp,rfl,ho⟩:=h;obtain⟨d,h1,h2⟩:=jG hp.symm (vX r kz);obtain⟨h3,h4⟩:=vY h2;refine⟨_,h3,d,h1.symm,rfl,?_⟩;rw[h4];exact List.Pairwise.map _ (fun a b (z:if false=true then b.1<=a.1 else a.1<=b.1)=>z) ho
section
variable{prog:Program}{w:World}{A:Around}{E:Value->Shared->Prop}{s:Shared}{D kS:Addr}{vs:List Value}{kz:List Int}{ky:List Value}{c1 c2:Nat}{P:PySem.Fin->Shared->Prop}
theorem uC{st:SortSt}(gk:s.heap.get? kS=some (seqObj "list" ky.toArray c2))(gd:s.heap.get? D=some (seqObj "list" #[] c1))(ne:kS≠D)(hk:IntsAre ky kz)(e1:kz.length=vs.length)(l64:vs.length<64)
  (pm:(arrOf st).Perm (ky.toArray.zip vs.toArray)) (so:SortedTo (arrOf st) (arrOf st).size) (nf:failedOf st=none)
  (fin:∀out:List Value,KskOut false kz vs out->out.length<64->P (.done (.ret .none)) {s with heap:=(s.heap.update kS (Obj.mapSeq fun _=> #[])).update D (Obj.mapSeq fun _=>out.toArray)}):
  wpAny (model prog w) A (ksk_tail D false c1 (.ref kS) st) P E s:=by
 have lk:ky.length=vs.length:=by rw[hk.length];exact e1
 have ls:(arrOf st).size=vs.length:=by rw[pm.size_eq,Array.size_zip,Gq,Gq,lk,Nat.min_self]
 have gd2:(s.heap.update kS (Obj.mapSeq fun _=>(#[]:Array Value))).get? D=some (seqObj "list" #[] c1):=((Ht s.heap kS _).2 D ne.symm).trans gd;have ko:KskOut false kz vs ((arrOf st).map (·.2)).toList:=ksk_out (b:=false) (keys:=ky.toArray) (by simpa using hk) pm so;have f2:=fin _ ko (by rw[Hh,Array.size_map,ls];exact l64);rw[Array.toArray_toList]at f2;unfold ksk_tail
 try dsimp only
 refine Gg (listUpdate_at gk rfl ?_ (by rw[Gq,Hl];lia) (G1 _));refine Gg (wpAny_letGo (Gg (seqEpoch_at gd2 rfl (Gg (listUpdate_at gd2 rfl ?_ (G1 _) ?_)))))
 ·rw[nf];simp only[bne_self_eq_false,Hq,if_false];exact Gj f2
 ·simp only[Hq,if_false,Array.size_map,ls,Hl]
  lia
theorem Bv(gk:s.heap.get? kS=some (seqObj "list" ky.toArray c2))(gd:s.heap.get? D=some (seqObj "list" #[] c1))(ne:kS≠D)(hk:IntsAre ky kz)(e1:kz.length=vs.length)(l64:vs.length<64)
  (fin:∀out:List Value,KskOut false kz vs out->out.length<64->P (.done (.ret .none)) {s with heap:=(s.heap.update kS (Obj.mapSeq fun _=> #[])).update D (Obj.mapSeq fun _=>out.toArray)}):
  wpAny (model prog w) A (ksk_end D false vs.toArray c1 (.ref kS) ky.toArray) P E s:=by
 have lk:ky.length=vs.length:=by rw[hk.length];exact e1
 have hk':IntsAre ky.toArray.toList kz:=by simpa using hk
 have zs:(ky.toArray.zip vs.toArray).size=vs.length:=by rw[Array.size_zip,Gq,Gq,lk,Nat.min_self]
 unfold ksk_end
 try dsimp only
 rw[Gu (by decide)];by_cases h2:vs.toArray.size<2
 ·rw[Gz h2,Gz h2];refine Gg (Gj ?_);rw[StateT.run_pure];refine Gg (Gj ?_);refine uC gk gd ne hk e1 l64 (Array.Perm.refl _) (fun i j hij hj=>?_) rfl fin;have hj':j<(ky.toArray.zip vs.toArray).size:=hj;rw[Gq]at h2;obtain rfl:i=j:=by lia
  exact Int.le_refl _
 ·rw[Gu h2,Gu h2];rw[Gq]at h2;rw[ksk_kind hk' (by rw[Gq,lk];lia)];refine Gg (Gj (Gg (Ha (wpS_sortRuns (a₀:=ky.toArray.zip vs.toArray) (Q:=fun _ z=>(arrOf z).Perm (ky.toArray.zip vs.toArray)/\failedOf z=none/\SortedTo (arrOf z) (ky.toArray.zip vs.toArray).size) (ksk_intKeys hk') ⟨Array.Perm.refl _,rfl,rfl,rfl⟩ (by rw[zs];omega) (by rw[zs];exact l64) fun z q1 q2 q3=>⟨q1,q2,q3⟩) ?_ fun _ _ z=>z)));rintro⟨⟨⟩,z⟩ s' ⟨rfl,q1,q2,q3⟩;exact uC gk gd ne hk e1 l64 q1 (by rw[q1.size_eq];exact q3) q2 fin
end
section
variable{X:Cx}{k:Nat}{f:Addr}{fd:FuncData}{ps:List Str}{sp:Sp}
theorem BA{pins:List (Addr×Obj)}{σ:St}{H:Hp}{s:Shared}{Q:VK}{us:List Value}{vs:List V}(F:ir X.prog X.w X.K X.mg X.base CX0 k f fd ps sp)(hr:cy (k+2) X.A)(hb:Binds X.K fd ps [])
  (I:Inv X pins σ H s) (r:Vals vs us) (h:sp vs H Q E0):wpAny (model X.prog X.w) X.A.in1.in1 (call (.ref f) us) (EP X pins σ Q) (fun _ _=>False) s:=by
 have hl:(us++[]).length=ps.length:=by rw[GY,<-r.length];exact F.len _ _ _ _ h
 have hb':=hb s us I.kIn hl;rw[GY]at hb';refine wpAny_call (codeAny_mono (F.run X.A.in1.in1 X.stack s H ⟨us,[]⟩ us vs Q E0 hr.in1.in1 I.env0.in1.in1 hb' r h) fun z s' hq=>?_);cases z with
 |error e=>exact False.elim hq
 |ok fl=>
  cases fl with
  |ret u=>exact I.after hq
  |next=>exact False.elim hq
  |brk=>exact False.elim hq
  |cont=>exact False.elim hq
theorem Inv.track{pins:List (Addr×Obj)}{σ:St}{H:Hp}{s:Shared}{h':Heap}{D:Addr}{ys:List V}{its:List Value}{n t':Nat}(I:Inv X pins σ H s)(fD:lS X pins H D)(k:∀b o,b≠D->s.heap.get? b=some o->h'.get? b=some o)
  (hv:Vals ys its) (hz:ys.length<=sizeLine) (g:h'.get? D=some {cls:=.type "list",data:=.seq its.toArray n}):Inv X pins σ (upd H D (.lst ys)) {s with heap:=h',toks:=t'}:=by
 obtain⟨f0,f1,f2,f3,f4,f5⟩:=fD;have nD:∀b u,H b=some u->b≠D:=fun b u e z=>by rw[z,f0]at e;cases e
 refine I.step (g':=s.gens) (d':=s.drawn) (ch:=[D]) (fun b hb=>?_) (fun b o _ _ hc e _=>k b o (fun z=>hc (by simp[z])) e) (fun b o _ _ hc e _=>⟨o.slots,k b o (fun z=>hc (by simp[z])) e⟩)
  (fun b o hc _ q=>by rw[av (fun z=>hc (by simp[z]))];exact q) (fun b o hc e=>⟨o,k b o (fun z=>hc (by simp[z])) e⟩) (fun b xs e=>by rw[av (nD b _ e)];exact e) (fun b o u e=>by rw[av (nD b _ e)];exact e)
  (fun b ps e=>⟨#[],by rw[av (nD b _ e),e];simp⟩) (fun m hm=>?_) (fun b u e=>?_) I.bare
 ·obtain rfl:b=D:=by simpa using hb
  exact⟨f3,f1,f4,f5⟩
 ·obtain⟨o,es,ep,ho,r⟩:=hm;exact⟨o,es,ep,k _ o (HB f1) ho,r⟩
 ·by_cases hbD:b=D
  ·subst hbD;rw[af]at e;cases e;exact⟨hz,its,n,hv,g⟩
  ·rw[av hbD]at e;refine(I.hok b u e).stay (fun c v hc q=>k c v ?_ q) (fun c q=>?_) fun c xs q=>?_
   ·rcases hc with z|z
    ·rw[z];exact hbD
    ·exact nD c _ z
   ·rw[av (nD c _ q)];exact q
   ·rw[av (nD c _ q)];exact q
theorem x9{pins:List (Addr×Obj)}{σ:St}{H:Hp}{s:Shared}{P:PySem.Fin->Shared->Prop}{E:Value->Shared->Prop}{D:Addr}{n:Nat}{xs:List V}{vs:List Value}{kz:List Int}
  (F:ir X.prog X.w X.K X.mg X.base CX0 k f fd ps sp) (hr:cy (k+2) X.A) (hb:Binds X.K fd ps []) (I:Inv X pins σ H s) (fD:lS X pins H D) (gD:s.heap.get? D=some (seqObj "list" vs.toArray n)) (rv:Vals xs vs) (h64:xs.length<64) (hlen:kz.length=xs.length)
  (turn:∀(i:Nat)(v:V)(z:Int),xs[i]?=some v->kz[i]?=some z->∀H2,ao H H2->sp [v] H2 (fun y H3=>y=.int z/\H3=H2) E0)
  (done:∀ys H2 s2,Inv X pins σ H2 s2->ao H H2->H2 D=some (.lst ys)->A0 kz xs ys->P (.done (.ret .none)) s2):
  wpAny (model X.prog X.w) X.A.in1.in1 (ksk_tree D (.ref f) false) P E s:=by
 have lv:=rv.length;have up1:=Ht s.heap D (Obj.mapSeq fun _=>(#[]:Array Value));obtain⟨c1,gD1⟩:∃c1,(s.heap.update D (Obj.mapSeq fun _=>(#[]:Array Value))).get? D=some (seqObj "list" #[] c1):=⟨_,get?_update_seq gD fun _=> #[]⟩;obtain⟨f0,f1,f2,f3,f4,f5⟩:=id fD;have I1:Inv X pins σ H {s with heap:=s.heap.update D (Obj.mapSeq fun _=>(#[]:Array Value)),toks:=s.toks}:=I.turned (fun b o hb e=>(up1.2 b hb).trans e) f0 f1 f3 f4 f5;unfold ksk_tree;refine Gg (listItems_at gD rfl ?_);refine Gg (listUpdate_at gD rfl ?_ (by rw[Gq,Hl];lia) (G1 _));refine Gg (seqEpoch_at gD1 rfl ?_);refine Gg (wpAny_newTuple ?_ (by show vs.length<=_;rw[Hl];omega));have I2:=I1.kept (t':=s.toks) (h':=(s.heap.update D (Obj.mapSeq fun _=>(#[]:Array Value))).push (seqObj "tuple" vs.toArray 0)) (fun b u q=>Gi _ q);have gD2:=Gi (seqObj "tuple" vs.toArray 0) gD1;refine Gg (wpAny_newList ?_ (G1 _));have I3:=I2.lnew (its:=[]) (ys:=[]) (t':=s.toks) .nil (G1 _);have gD3:=Gi (seqObj "list" #[] 0) gD2;have fr2:=I2.fresh;have nKD:((s.heap.update D (Obj.mapSeq fun _=>(#[]:Array Value))).push (seqObj "tuple" vs.toArray 0)).objs.size≠D:=Nat.ne_of_gt (GG gD2);refine Hr ?_;generalize hkS:((s.heap.update D (Obj.mapSeq fun _=>(#[]:Array Value))).push (seqObj "tuple" vs.toArray 0)).objs.size=kS at I3 fr2 nKD ⊢
 have I4:=I3.pinned (fp:=[D]) (fun b hb=>by
  obtain rfl:b=D:=by simpa using hb
  exact⟨by rw[av (HB nKD)];exact f0,f1,f2,f3,f4,f5⟩) (fun b hb=>by
  obtain rfl:b=D:=by simpa using hb
  exact⟨_,gD3,fun v z=>by cases z⟩)
 have hpins:((D,seqObj "list" #[] c1):Addr×Obj)∈jF [D] (((s.heap.update D (Obj.mapSeq fun _=>(#[]:Array Value))).push (seqObj "tuple" vs.toArray 0)).push (seqObj "list" #[] 0)):=gW (by simp) gD3;have sm3:ao H (upd H kS (.lst [])):=ao.upd fr2;clear I1 I2 I3 gD1 gD2 up1;change Inv X (pins++jF [D] (((s.heap.update D (Obj.mapSeq fun _=>(#[]:Array Value))).push (seqObj "tuple" vs.toArray 0)).push (seqObj "list" #[] 0))) σ (upd H kS (.lst [])) {s with heap:=((s.heap.update D (Obj.mapSeq fun _=>(#[]:Array Value))).push (seqObj "tuple" vs.toArray 0)).push (seqObj "list" #[] 0)}at I4;change wpAny _ _ _ _ _ {s with heap:=((s.heap.update D (Obj.mapSeq fun _=>(#[]:Array Value))).push (seqObj "tuple" vs.toArray 0)).push (seqObj "list" #[] 0)};generalize hpl:jF [D] (((s.heap.update D (Obj.mapSeq fun _=>(#[]:Array Value))).push (seqObj "tuple" vs.toArray 0)).push (seqObj "list" #[] 0))=pl at I4 hpins;generalize ({s with heap:=((s.heap.update D (Obj.mapSeq fun _=>(#[]:Array Value))).push (seqObj "tuple" vs.toArray 0)).push (seqObj "list" #[] 0)}:Shared)=s4 at I4 ⊢;unfold ksk_rest;refine Gg (wpAny_rule ?_);rw[List.forIn_toArray];refine Gg (ksk_fold (fun i s'=>∃H',Inv X (pins++pl) σ H' s'/\H' kS=some (.lst ((kz.take i).map V.int))/\ao H H') vs 0 s4 ⟨_,I4,af,sm3⟩ ?step ?fini)
 case step=>
  rintro j x s' hx ⟨H',I',hk',sm'⟩;simp only[Ib]at hk' ⊢;have hj:j<vs.length:=(GA.mp hx).1;obtain⟨v,hv⟩:∃v,xs[j]?=some v:=⟨xs[j]'(by lia),by simp[show j<xs.length by omega]⟩;obtain⟨z,hzj⟩:∃z,kz[j]?=some z:=⟨kz[j]'(by lia),by simp[show j<kz.length by omega]⟩;obtain⟨u,hu,ru⟩:=rv.get hv;rw[hx]at hu;cases hu;refine Gg (wpAny_attempt (Ha (BA F hr hb I' (.cons ru .nil) (turn j v z hv hzj H' sm')) (fun y s'' he=>?_) fun _ _ hF=>hF.elim));obtain⟨y',H3,I'',ry,e1,e2⟩:=he;subst e1;subst e2;obtain⟨t,rfl⟩:=ry;obtain⟨hz',its,n',rk,lk,gk⟩:=I''.lstM hk';rw[Gh,GR]at lk;have I5:=I''.lset (f:=fun q=>q.push (.int z t)) (its':=its++[.int z t]) (ys:=(kz.take j).map V.int++[.int z]) (t':=s''.toks) hk' gk (by simp) (rk.append (show Vals [V.int z] [Value.int z t]from .cons ⟨t,rfl⟩ .nil)) (by rw[Gn,Gh,GR,HC,Hl];lia);refine Gg (listUpdate_at gk rfl ?_ (by rw[Gq,Hl];lia) (G0 (Nat.le_of_eq (Array.size_push ..)) (by rw[Gq,Hl];lia)));refine Gj ⟨rfl,_,I5,?_,fun b o e=>?_⟩
  ·rw[af,GF,hzj];simp
  ·have nb:b≠kS:=fun zz=>by rw[zz,fr2]at e;cases e
   rw[av nb];exact sm' b o e
 case fini=>
  rintro s' ⟨H',I',hk',sm'⟩;rw[Ib,List.take_of_length_le (by lia)]at hk';obtain⟨hz',its,n',rk,lk,gk⟩:=I'.lstM hk';obtain⟨pD,pn,_⟩:=I'.pin (D,seqObj "list" #[] c1) (GQ _ (GQ _ hpins));refine Gg (listItems_at gk rfl ?_);refine Bv gk pD nKD (intsAre_of rk) (by lia) (by lia) fun out ko lo=>?_;obtain⟨ys,ry,sk⟩:=Bw rv ko;have I5:=I'.unpinned.lset (f:=fun _=> #[]) (its':=[]) (ys:=[]) (t':=s'.toks) hk' gk rfl .nil (G1 _);have pD5:(s'.heap.update kS (Obj.mapSeq fun _=>(#[]:Array Value))).get? D=some (seqObj "list" #[] c1):=((Ht s'.heap kS _).2 D nKD.symm).trans pD;obtain⟨c6,g6⟩:∃c6,((s'.heap.update kS (Obj.mapSeq fun _=>(#[]:Array Value))).update D (Obj.mapSeq fun _=>out.toArray)).get? D=some (seqObj "list" out.toArray c6):=⟨_,get?_update_seq pD5 fun _=>out.toArray⟩;have I6:=I5.track (D:=D) (ys:=ys) (its:=out) (n:=c6) (t':=s'.toks) (h':=(s'.heap.update kS (Obj.mapSeq fun _=>(#[]:Array Value))).update D (Obj.mapSeq fun _=>out.toArray))
   ⟨by rw[av (HB nKD)];exact pn,f1,f2,f3,f4,f5⟩ (fun b o hb e=>((Ht _ D _).2 b hb).trans e) ry (by rw[ry.length,Hl];lia) g6
  refine done ys _ _ I6 (fun b o e=>?_) af sk;have nb:b≠kS:=fun zz=>by rw[zz,fr2]at e;cases e
  have nb2:b≠D:=fun zz=>by rw[zz,f0]at e;cases e
  rw[av nb2,av nb];exact sm' b o e
theorem wK{pins:List (Addr×Obj)}{σ:St}{H:Hp}{s:Shared}{Q:VK}{a:Addr}{xs:List V}{kz:List Int}(F:ir X.prog X.w X.K X.mg X.base CX0 k f fd ps sp)(hr:cy (k+2) X.A)(hb:Binds X.K fd ps [])
  (I:Inv X pins σ H s) (hx:SqL X.K H a xs) (h64:xs.length<64) (hlen:kz.length=xs.length)
  (turn:∀(i:Nat)(v:V)(z:Int),xs[i]?=some v->kz[i]?=some z->∀H2,ao H H2->sp [v] H2 (fun y H3=>y=.int z/\H3=H2) E0)
  (done:∀l ys H2,H l=none->ao H H2->H2 l=some (.lst ys)->A0 kz xs ys->Q (.ref l) H2):
  wpAny (model X.prog X.w) X.A (call (.builtin "sorted") [.ref a] [("key",.ref f)]) (EP X pins σ Q) X.xe s:=by
 obtain⟨vs,rv,pl,hz⟩:=I.list hx;have lv:=rv.length;refine call_function_entry_kw kind_sorted plain_sorted entry_sorted (ksk_s1 _ _) ?_;unfold Builtin.«sorted»;refine Gg (m:=checkCount "sorted" 1 1 _) (Gj ?_);refine Gg (collect_list pl.isList ?_ (by lia));have sz1:((s.heap.push (seqObj "list" #[] 0)).update s.heap.objs.size (Obj.mapSeq fun z=>z++vs.toArray)).objs.size=s.heap.objs.size+1:=by rw[Heap.size_update,size_push']
 have k1:∀b u,s.heap.get? b=some u->((s.heap.push (seqObj "list" #[] 0)).update s.heap.objs.size (Obj.mapSeq fun z=>z++vs.toArray)).get? b=some u:=fun b u e=>by have lt:=GG e;exact((Ht (s.heap.push (seqObj "list" #[] 0)) s.heap.objs.size _).2 b (G5 lt)).trans (Gi _ e)
 have I1:=I.kept (t':=s.toks) k1;refine Gg (wpAny_newList ?_ (by lia));have k2:∀b u,((s.heap.push (seqObj "list" #[] 0)).update s.heap.objs.size (Obj.mapSeq fun z=>z++vs.toArray)).get? b=some u->(((s.heap.push (seqObj "list" #[] 0)).update s.heap.objs.size (Obj.mapSeq fun z=>z++vs.toArray)).push (seqObj "list" vs.toArray 0)).get? b=some u:=fun b u e=>Gi _ e;have I2:=I1.kept (t':=s.toks) k2;have gD:(((s.heap.push (seqObj "list" #[] 0)).update s.heap.objs.size (Obj.mapSeq fun z=>z++vs.toArray)).push (seqObj "list" vs.toArray 0)).get? ((s.heap.push (seqObj "list" #[] 0)).update s.heap.objs.size (Obj.mapSeq fun z=>z++vs.toArray)).objs.size=some (seqObj "list" vs.toArray 0):=GO _ rfl;have nD:H ((s.heap.push (seqObj "list" #[] 0)).update s.heap.objs.size (Obj.mapSeq fun z=>z++vs.toArray)).objs.size=none:=I1.fresh;have fD:=I1.fpOk (H':=H) (Gr _) nD;change wpAny _ _ _ _ _ {s with heap:=((s.heap.push (seqObj "list" #[] 0)).update s.heap.objs.size (Obj.mapSeq fun z=>z++vs.toArray)).push (seqObj "list" vs.toArray 0),toks:=s.toks};refine Gg (Hr (wpAny_call_entry_kw slot_list_sort ⟨_,gD,rfl⟩ entry_list_sort ?body (ksk_l1 _ _)))
 case body=>show wpAny (model X.prog X.w) X.A.in1.in1 (Builtin.«list.sort» ⟨[.ref _],[(Str.ofString "key",.ref f)]⟩) _ _ _;rw[ksk_t1];refine x9 F hr hb I2 fD gD rv h64 hlen turn fun ys H2 s2 I3 sm hD sk=>⟨_,rfl,Gj ⟨_,rfl,?_⟩⟩;exact⟨.ref _,H2,I3,rfl,done _ ys H2 nD sm hD sk⟩
def EH(K:Frag)(sp:Sp)(t:TA):TE:=fun σ H Q=>t σ H fun vs H1=>∃a xs kz,vs=[.ref a]/\SqL K H1 a xs/\xs.length<64/\kz.length=xs.length/\
 (∀(i:Nat)(v:V)(z:Int),xs[i]?=some v->kz[i]?=some z->∀H2,ao H1 H2->sp [v] H2 (fun y H3=>y=.int z/\H3=H2) E0)/\
 ∀l ys H2,H1 l=none->ao H1 H2->H2 l=some (.lst ys)->A0 kz xs ys->Q (.ref l) H2
theorem BL{j:Nat}{g:Str}{e:Expr}{t:TA}{p p2 kp pos:Pos}(D:Df X.prog X.w X.K X.mg X.base j g ps sp)(hr:cy k X.A)(hs:Gl X "sorted")(hm:X.mg "sorted"=none)(ha:PA X [e] t)(hg:Gl X g:=by rfl)(hj:j+2<=k:=by decide)
  (hdb:(g==("__debug__":Str))=false:=by decide) (hst:starEach [e] X.env=[(false,eval e X.env)]:=by rfl):
  PE X (.Call (.Name "sorted" p) [e] [⟨some "key",.Name g p2,kp⟩] pos) (EH X.K sp t):=by
 obtain⟨f,fd,F,b,hmg,kp'⟩:=D.ex;intro pins s σ H Q I h;refine wpAny_Call_Name_kw (lJ I hs hm (by decide+kernel:bootBuiltins "sorted"=some (.builtin "sorted")) ?_ (by decide) (by decide));refine PyProof.Rows.callWith_kw (thn (ha pos pins s σ H _ I h) fun us s1 hPz=>?_) (by rw[hst];rfl) (by rw[hst];rfl) (by rfl) (by rfl);obtain⟨vs,H1,I1,r1,a,xs,kz,ea,hx,h64,hlen,turn,done⟩:=hPz;subst ea;obtain⟨u,rfl,ru⟩:=vals1 r1;cases ru;refine PyProof.Rows.kws_cons (jX I1 hg hmg (PyProof.Rows.kws_nil ?_) hdb);exact wK F (hr.mono hj) b I1 hx h64 hlen turn done
end
theorem Fb{X:Cx}{tg l:Expr}{w1 w2:TI}(h1:PI X tg l w1)(h2:PI X tg l w2):PI X tg l (fun σ H R=>w1 σ H R\/w2 σ H R):=by
 intro pins s σ H R I h;rcases h with h|h
 ·exact h1 pins s σ H R I h
 ·exact h2 pins s σ H R I h
theorem zK{X:Cx}{tg l:Expr}{tl:TE}(hl:PE X l tl):PI X tg l (fun σ H R=>CW X.K tl σ H R\/Fl X.K tl σ H R):=Fb (dJ hl) (eF hl)
end L2
namespace LM
open PyProof.Rows
structure qJ(w h c k:Nat)(G T:List Nat):Prop where
 nd:G.Nodup
 at_:k∈G
 rc:∀x∈G,Rch w h c k x
 sb:∀x∈T,x∈G
 cl:∀x∈G,¬x∈T->∀i∈eD w h x,c.testBit i=true->i∈G
theorem qJ.start{w h c k:Nat}(hk:c.testBit k=true):qJ w h c k [k] [k] where
 nd:=by simp
 at_:=by simp
 rc:=fun x hx=>by rw[Gk]at hx;subst hx;exact .here hk
 sb:=fun x hx=>hx
 cl:=fun x hx hn=>absurd hx hn
theorem qJ.len{w h c k:Nat}{G T:List Nat}(hc:c<2^64)(D:qJ w h c k G T):G.length<=64:=by have:=length_le_of_subset (l1:=G) (l2:=List.range 64) D.nd fun x hx=>G7.mpr (gg hc (D.rc x hx).in);simpa using this
theorem ny{G:List Nat}{j:Nat}:(gU 0 G).testBit j=true<->j∈G:=by rw[rR];simp
theorem qJ.done{w h c k:Nat}{G:List Nat}(D:qJ w h c k G []):cX w h c k (gU 0 G):=fun j=>by
 rw[ny];constructor
 ·exact D.rc j
 ·intro r
  induction r with
  |here _=>exact D.at_
  |step _ hn hc ih=>exact D.cl _ ih (by simp) _ hn hc
structure rq(w h c k x:Nat)(G T:List Nat)(ns:List Nat):Prop where
 nd:G.Nodup
 at_:k∈G
 rc:∀y∈G,Rch w h c k y
 sb:∀y∈T,y∈G
 xG:x∈G
 cl:∀y∈G,¬y∈T->y≠x->∀i∈eD w h y,c.testBit i=true->i∈G
 cx:∀i∈ns,c.testBit i=true->i∈G
theorem qJ.mid{w h c k x:Nat}{G T:List Nat}(D:qJ w h c k G (T++[x])):rq w h c k x G T [] where
 nd:=D.nd
 at_:=D.at_
 rc:=D.rc
 sb:=fun y hy=>D.sb y (GI _ hy)
 xG:=D.sb x (by simp)
 cl:=fun y hy hn hne=>D.cl y hy (fun z=>(Gv.mp z).elim hn fun z=>hne (Gk.mp z))
 cx:=fun i hi=>by simp at hi
theorem rq.push{w h c k x i:Nat}{G T ns:List Nat}(D:rq w h c k x G T ns)(hi:c.testBit i=true)(hn:i∈eD w h x)(hG:¬i∈G):rq w h c k x (G++[i]) (T++[i]) (ns++[i]) where
 nd:=by rw[List.nodup_append];refine⟨D.nd,by simp,fun a ha b hb e=>?_⟩;rw[Gk]at hb;subst hb;subst e;exact hG ha
 at_:=GI _ D.at_
 rc:=fun y hy=>by
  rcases Gv.mp hy with z|z
  ·exact D.rc y z
  ·rw[Gk]at z;subst z;exact .step (D.rc x D.xG) hn hi
 sb:=fun y hy=>by
  rcases Gv.mp hy with z|z
  ·exact GI _ (D.sb y z)
  ·exact GQ _ z
 xG:=GI _ D.xG
 cl:=fun y hy hT hne j hj hcj=>by
  rcases Gv.mp hy with z|z
  ·exact GI _ (D.cl y z (fun q=>hT (GI _ q)) hne j hj hcj)
  ·exact absurd (GQ _ z) hT
 cx:=fun j hj hcj=>by
  rcases Gv.mp hj with z|z
  ·exact GI _ (D.cx j z hcj)
  ·exact GQ _ z
theorem rq.skip{w h c k x i:Nat}{G T ns:List Nat}(D:rq w h c k x G T ns)(hi:c.testBit i=true->i∈G):rq w h c k x G T (ns++[i]) where
 nd:=D.nd
 at_:=D.at_
 rc:=D.rc
 sb:=D.sb
 xG:=D.xG
 cl:=D.cl
 cx:=fun j hj hcj=>by
  rcases Gv.mp hj with z|z
  ·exact D.cx j z hcj
  ·rw[Gk]at z;subst z;exact hi hcj
theorem rq.done{w h c k x:Nat}{G T:List Nat}(D:rq w h c k x G T (eD w h x)):qJ w h c k G T where
 nd:=D.nd
 at_:=D.at_
 rc:=D.rc
 sb:=D.sb
 cl:=fun y hy hT i hi hc=>by
  by_cases e:y=x
  ·subst e;exact D.cx i hi hc
  ·exact D.cl y hy hT e i hi hc
theorem cX.to_closed{w h c r k p:Nat}(hcl:g7 w h c r)(hs:Sub r c)(hk:r.testBit k=true)(a:cX w h c k p):cX w h r k p:=fun j=>by
 rw[a j];constructor
 ·intro x
  induction x with
  |here _=>exact .here hk
  |step _ n e ih=>exact .step ih n (hcl _ _ ih.in n e)
 ·intro x
  induction x with
  |here e=>exact .here (hs _ e)
  |step _ n e ih=>exact .step ih n (hs _ e)
end LM
namespace L2
open PySem PySem.Spec PyProof.Rows
theorem b9.there{P:Program}{w:World}{H:Hp}{h:Heap}{a:Addr}:∀{o:HO},b9 P w H h a o->∃ob,h.get? a=some ob
 | .lst _,⟨_,_,_,_,e⟩=>⟨_,e⟩
 | .tup _,⟨_,_,_,o,e,_⟩=>⟨o,e⟩
 | .dK _,⟨_,_,_,_,o,_,_,e,_⟩=>⟨o,e⟩
 | .dT _,⟨_,_,_,_,o,_,_,e,_⟩=>⟨o,e⟩
 | .set _ _,x=>let ⟨o,e,_⟩:=(show h.SetOf (intKind P w) a _ _ from x).objOf;⟨o,e⟩
 | .ins _ _ _,⟨_,_,_,e,_⟩=>⟨_,e⟩
 | .own _,⟨o,e⟩=>⟨o,e⟩
 | .xd _,⟨_,n,_⟩=>by obtain⟨o,e,_⟩:=rY n;exact⟨o,e⟩
 | .rng _ _,⟨_,_,_,e⟩=>⟨_,e⟩
 | .frz _ _,⟨e,_⟩=>⟨_,e⟩
 | .tbl _,e=>⟨_,e⟩
 | .met _ _,e=>⟨_,e⟩
 | .ext _,⟨_,⟨o,e⟩,_⟩=>⟨o,e⟩
section
variable{X:Cx}{pins:List (Addr×Obj)}{σ:St}{H:Hp}{s:Shared}
theorem Inv.untr(I:Inv X pins σ H s){b:Addr}(e:s.heap.get? b=none):H b=none:=by
 cases q:H b with
 |none=>rfl
 |some o=>obtain⟨ob,z⟩:=(I.hok b o q).there;rw[e]at z;cases z
theorem Inv.flown{h':Heap}{ch:List Addr}{t':Nat}(I:Inv X pins σ H s)
  (hch:∀b∈ch,X.s₀.heap.get? b=none/\H b=none/\b≠X.env.locals/\(∀x c,X.env.cells.lookup x=some c->c≠b)/\∀p∈X.pn++pins,p.1≠b)
  (keep:∀b o,b∉frs X.stack->b∉ch->s.heap.get? b=some o->h'.get? b=some o) (slot:∀b o,b∈frs X.stack->s.heap.get? b=some o->∃sl,h'.get? b=some {o with slots:=sl}):
  Inv X pins σ H {s with heap:=h',toks:=t'}:=by
 have any:∀b o,b∉ch->s.heap.get? b=some o->∃sl,h'.get? b=some {o with slots:=sl}:=fun b o hc e=>by
  by_cases hb:b∈frs X.stack
  ·exact slot b o hb e
  ·exact⟨o.slots,keep b o hb hc e⟩
 have nch:∀b o,X.s₀.heap.get? b=some o->b∉ch:=fun b o e hb=>by rw[(hch b hb).1]at e;cases e
 have nst:∀b o,X.s₀.heap.get? b=some o->b∉X.fs->b∉frs X.stack:=fun b o e hb z=>by
  rcases GH.mp (I.stkSub b z)with q|q
  ·rw[q]at e;exact absurd (Gx (GG e) I.ok.above) (HW _)
  ·exact hb q
 have cellK:∀x c,X.env.cells.lookup x=some c->∀v,s.heap.IsCell c v->h'.IsCell c v:=fun x c e v ⟨o,ho,hd⟩=>by obtain⟨sl,q⟩:=any c o (fun z=>(hch c z).2.2.2.1 x c e rfl) ho;exact⟨_,q,hd⟩
 refine⟨I.ok,I.os,I.bare,⟨fun b o e n hb hx=>?_,fun b o e n hb hx=>?_,I.base.free,fun b o e hx=>?_,I.base.tups,I.base.frzs,I.base.tbls⟩,?_,fun x c e=>?_,I.free,I.freeC,fun p hp=>?_,fun b u e=>?_,I.len⟩
 ·exact keep b o (nst b o e hb) (nch b o e) (I.base.keep b o e n hb hx)
 ·obtain⟨sl,e1⟩:=I.base.slot b o e n hb hx;obtain⟨sl2,e2⟩:=any b _ (nch b o e) e1;exact⟨sl2,e2⟩
 ·obtain⟨o',e1⟩:=I.base.there b o e hx;obtain⟨sl,e2⟩:=any b o' (nch b o e) e1;exact⟨_,e2⟩
 ·obtain⟨m,⟨o,es,ep,ho,r⟩,hl⟩:=I.loc;obtain⟨sl,hL⟩:=any _ o (fun z=>(hch _ z).2.2.1 rfl) ho;refine⟨m,⟨_,es,ep,hL,r⟩,fun i x v e1 e2 e3=>?_⟩;obtain⟨u,r',l⟩:=hl i x v e1 e2 e3;refine⟨u,r',?_⟩;rcases l with l|⟨k,c,e,z⟩
  ·exact .inl l
  ·exact .inr ⟨k,c,e,cellK x c e _ z⟩
 ·obtain⟨v,z⟩:=I.cell x c e;exact⟨v,cellK x c e v z⟩
 ·obtain⟨e,n,ne,nf,d⟩:=I.pin p hp;refine⟨keep p.1 p.2 (fun z=>?_) (fun z=>(hch _ z).2.2.2.2 p hp rfl) e,n,ne,nf,d⟩;rcases GH.mp (I.stkSub _ z)with q|q
  ·exact ne q
  ·exact nf q
 ·refine(I.hok b u e).stay (fun c v hc q=>?_) (fun _ q=>q) fun _ _ q=>q;have hcu:∃y,H c=some y:=by
   rcases hc with z|z
   ·rw[z];exact⟨u,e⟩
   ·exact⟨_,z⟩
  obtain⟨y,hy⟩:=hcu;refine keep c v (fun z=>?_) (fun z=>?_) q
  ·rw[I.stkFree c z]at hy;cases hy
  ·rw[(hch c z).2.1]at hy;cases hy
def Trc(h:Heap)(x T:Addr)(cls a0:Value):Prop:=
 ∃oe vs oT ts,h.get? x=some oe/\(oe.cls=cls/\vs[0]?=some a0)/\oe.data=.fields vs/\vs[1]?=some (.ref T)/\T≠x/\h.get? T=some oT/\oT.data=.fields ts/\ts[3]?=some .none
theorem AA{x T:Addr}{cls a0:Value}(I:Inv X pins σ H s)(t:Trc s.heap x T cls a0):Heap.FlyingW (PySem.W.hideAll s.heap (frs X.stack++[x,T])) X.stack x cls a0 s.heap:=by obtain⟨oe,vs,oT,ts,a1,a2,a3,a4,a5,a6,a7,a8⟩:=t;refine⟨fun b o q=>PySem.W.of_hideAll _ q,PySem.W.hideAll_none _ (by simp),PySem.W.funFrames_hide I.stack fun env he a ha=>GI _ (List.mem_filterMap.mpr ⟨env,he,ha⟩),oe,vs,T,oT,ts,a1,a2,a3,a4,PySem.W.hideAll_none _ (by simp),a5,a6,a7,a8⟩
theorem Inv.landed{x T:Addr}{h':Heap}{t':Nat}(I:Inv X pins σ H s)(n1:X.s₀.heap.get? x=none)(n2:X.s₀.heap.get? T=none)(u1:H x=none)(u2:H T=none)
  (g1:∀p∈X.pn++pins,p.1≠x) (g2:∀p∈X.pn++pins,p.1≠T) (c1:∀y c,X.env.cells.lookup y=some c->c≠x) (c2:∀y c,X.env.cells.lookup y=some c->c≠T) (l1:x≠X.env.locals) (l2:T≠X.env.locals)
  (st:(PySem.W.hideAll s.heap (frs X.stack++[x,T])).StaysIn h') (us:s.heap.UpToSlots h'):Inv X pins σ H {s with heap:=h',toks:=t'}:=by
 refine I.flown (ch:=[x,T]) (fun b hb=>?_) (fun b o hb hc e=>st b o (PySem.W.hideAll_get _ e fun z=>?_)) (fun b o hb e=>?_)
 ·rcases GH.mp hb with q|q
  ·subst q;exact⟨n1,u1,l1,c1,g1⟩
  ·rw[Gk]at q;subst q;exact⟨n2,u2,l2,c2,g2⟩
 ·rcases Gv.mp z with q|q
  ·exact hb q
  ·exact hc q
 ·obtain⟨_,o',ho,hnf⟩:=I.stack.mem hb;rw[e]at ho;cases ho;exact us b o e hnf
theorem Inv.apart{x:Addr}(I:Inv X pins σ H s)(hex:X.ex=[])(n:s.heap.get? x=none):
  X.s₀.heap.get? x=none/\(∀p∈X.pn++pins,p.1≠x)/\(∀y c,X.env.cells.lookup y=some c->c≠x)/\x≠X.env.locals:=by
 refine⟨?_,fun p hp z=>?_,fun y c e z=>?_,fun z=>?_⟩
 ·cases q:X.s₀.heap.get? x with
  |none=>rfl
  |some o=>obtain⟨o',e⟩:=I.base.there x o q (by rw[hex];simp);rw[n]at e;cases e
 ·have:=(I.pin p hp).1;rw[z,n]at this;cases this
 ·obtain⟨v,o,ho,_⟩:=I.cell y c e;rw[z,n]at ho;cases ho
 ·obtain⟨m,⟨o,es,ep,ho,_⟩,_⟩:=I.loc;rw[<-z,n]at ho;cases ho
theorem pE{B h':Heap}{x:Addr}{cls a0:Value}{as:List Addr}(I:Inv X pins σ H s)(hex:X.ex=[])(eB:B=PySem.W.hideAll s.heap (frs X.stack++as))(has:∀b∈as,X.s₀.heap.get? b=none/\H b=none)
  (J:∀b∈frs X.stack,∃o,h'.get? b=some o/\∀vs,o.data≠ .fields vs) (t:h'.TracedW B x cls a0):∃T,Trc h' x T cls a0/\X.s₀.heap.get? T=none/\H T=none:=by
 obtain⟨oe,vs,T,oT,ts,a1,a2,a3,a4,a5,a6,a7,a8,a9⟩:=t;have hid:∀o,s.heap.get? T=some o->T∈as:=fun o e=>by
  by_cases hm:T∈frs X.stack++as
  ·rcases Gv.mp hm with q|q
   ·obtain⟨o',e',nf⟩:=J T q;rw[a7]at e';cases e';exact absurd a8 (nf ts)
   ·exact q
  ·rw[eB,PySem.W.hideAll_get _ e hm]at a5;cases a5
 refine⟨T,⟨oe,vs,oT,ts,a1,a2,a3,a4,a6,a7,a8,a9⟩,?_,?_⟩
 ·cases q:X.s₀.heap.get? T with
  |none=>rfl
  |some o=>obtain⟨o',e⟩:=I.base.there T o q (by rw[hex];simp);rw[(has T (hid o' e)).1]at q;cases q
 ·cases q:H T with
  |none=>rfl
  |some o=>obtain⟨o',e⟩:=(I.hok T o q).there;rw[(has T (hid o' e)).2]at q;cases q
end
abbrev vErr:List Value:=[.type "ValueError",.type "Exception",.type "BaseException",.type "object"]
section
variable{X:Cx}{pins:List (Addr×Obj)}{σ:St}{H:Hp}{s:Shared}
def tCE(sp:Sp)(E:XK)(t:TA):TE:=fun σ H Q=>t σ H fun vs H1=>sp vs H1 Q E
end
noncomputable abbrev Cx.marked(X:Cx)(x:Addr):Cx:={X with A:=X.A.mark (some (.ref x)),calm:=false,xe:=fun _ _=>False}
section
variable{X:Cx}{pins:List (Addr×Obj)}{σ:St}{H:Hp}{s:Shared}{x:Addr}
theorem Inv.marked(I:Inv X pins σ H s)(x:Addr):Inv (X.marked x) pins σ H s:=
 ⟨⟨I.ok.mod,I.ok.kind,I.ok.glob,I.ok.blt,I.ok.above,I.ok.inj,I.ok.has,I.ok.cab,(fun z=>by cases z),I.ok.frames,I.ok.stk,I.ok.exf,I.ok.bs,I.ok.bsz,I.ok.noex,I.ok.exfs,I.ok.funs,I.ok.frf⟩,I.os,I.bare,I.base,I.loc,I.cell,I.free,I.freeC,I.pin,I.hok,I.len⟩
theorem Inv.unmarked(ok:X.Ok)(I:Inv (X.marked x) pins σ H s):Inv X pins σ H s:=⟨ok,I.os,I.bare,I.base,I.loc,I.cell,I.free,I.freeC,I.pin,I.hok,I.len⟩
theorem SP.unmarked{D:Ends}{f:Flow}{s':Shared}(ok:X.Ok)(h:SP (X.marked x) pins D f s'):SP X pins D f s':=by
 cases f with
 |next=>obtain⟨σ',H',I,q⟩:=h;exact⟨σ',H',I.unmarked ok,q⟩
 |brk=>obtain⟨σ',H',I,q⟩:=h;exact⟨σ',H',I.unmarked ok,q⟩
 |cont=>obtain⟨σ',H',I,q⟩:=h;exact⟨σ',H',I.unmarked ok,q⟩
 |ret u=>obtain⟨v,σ',H',I,r,q⟩:=h;exact⟨v,σ',H',I.unmarked ok,r,q⟩
end
theorem qw{M:Model}{A:Around}{E:Value->Shared->Prop}{nm nm' q q':Str}{C C' N N':Addr}{bs bs' tl tl':List Value}{hd hd':Bool}{sn sn':List Str}{sub sub':List Value}{ab ab':Bool}{col col':Option Bool}{dd dd':Option Addr}
  {k0 k1 k2 k3 k5 j0 j1 j2 j3 j5:Option Value} {i i':String} {s:Shared} {x:Addr} {oe:Obj} {Q:Bool->Shared->Prop} {r:Bool}
  (hC:s.heap.get? C=some (excClassObj nm q C N bs tl hd sn sub ab col dd k0 k1 k2 k3 k5 i)) (hC':s.heap.get? C'=some (excClassObj nm' q' C' N' bs' tl' hd' sn' sub' ab' col' dd' j0 j1 j2 j3 j5 i')) (he:s.heap.get? x=some oe) (hcls:oe.cls=.ref C)
  (hb:tl'.contains (.type "BaseException")=true) (hr:(Value.ref C::tl).contains (.ref C')=r) (hq:Q r s):wpAny M A (excMatches (.ref x) (.ref C')) Q E s:=by
 obtain⟨h,g,d,t,os⟩:=s;have hcB:(Value.ref C'::tl').contains (.type "BaseException")=true:=by rw[List.contains_cons,hb,Bool.or_true]
 have f:=tc_notTuple;unfold excMatches
 repeat (first|(with_reducible refine HP he ?_;rw[hcls])|with_reducible refine HP hC' ?_|(with_reducible refine wpAny_isSubtype_exc hC' ?_;rw[hcB])|(with_reducible refine wpAny_isSubtype_exc hC ?_;rw[hr])|wp_step)
 cases r<;>(wp_walk;exact hq)
section
variable{X:Cx}{pins:List (Addr×Obj)}{σ:St}{H:Hp}{s:Shared}
theorem Inv.nameGone{h':Heap}{n:Str}{i:Nat}{v:Option Value}{m:Str->Option Value}{t':Nat}(I:Inv X pins σ H s)(hN:X.N.Nodup)(hi:X.N[i]?=some n)
  (hm:∀(i:Nat)(x:Str)(v:V),X.N[i]?=some x->σ[i]?=some (some v)->Vis X.env.scope x->∃u,RelV v u/\Look X.env s.heap m x u)
  (hn:h'.Ns X.env.locals fun x=>if x=n then v else m x) (sb:Heap.SameBut X.env.locals s.heap h'):Inv X pins (σ.set i none) H {s with heap:=h',toks:=t'}:=by
 have k:∀b o,b≠X.env.locals->s.heap.get? b=some o->h'.get? b=some o:=fun b o hb e=>(sb.2 b hb).trans e;have nl:∀b o,X.s₀.heap.get? b=some o->b≠X.env.locals:=fun b o e z=>by rw[z]at e;exact absurd (Gx (GG e) I.ok.above) (HW _)
 have cellK:∀x c,X.env.cells.lookup x=some c->∀v,s.heap.IsCell c v->h'.IsCell c v:=fun x c e v ⟨o,ho,hd⟩=>⟨o,k c o (I.cne x c e) ho,hd⟩;refine⟨I.ok,I.os,I.bare,⟨fun b o e n' hb hx=>?_,fun b o e n' hb hx=>?_,I.base.free,fun b o e hx=>?_,I.base.tups,I.base.frzs,I.base.tbls⟩,⟨_,hn,fun j x v' e1 e2 e3=>?_⟩,fun x c e=>?_,I.free,I.freeC,fun p hp=>?_,fun b u e=>?_,?_⟩
 ·exact k b o (nl b o e) (I.base.keep b o e n' hb hx)
 ·obtain⟨sl,q⟩:=I.base.slot b o e n' hb hx;exact⟨sl,k b _ (nl b o e) q⟩
 ·obtain⟨o',q⟩:=I.base.there b o e hx;exact⟨o',k b o' (nl b o e) q⟩
 ·have hji:j≠i:=fun z=>by
   subst z
   rw[List.getElem?_set_self (by
    rw[I.len]
    exact(GA.mp e1).1)]at e2
   cases e2
  rw[List.getElem?_set_ne (HB hji)]at e2;obtain⟨u,r,l⟩:=hm j x v' e1 e2 e3;have hxn:x≠n:=fun z=>hji (qh hN e1 (by rw[z];exact hi));refine⟨u,r,?_⟩;rcases l with⟨q1,q2⟩|⟨q,c,e,z⟩
  ·exact .inl ⟨q1,by show(if x=n then v else m x)=some u;rw[Gu hxn];exact q2⟩
  ·exact .inr ⟨q,c,e,cellK x c e _ z⟩
 ·obtain⟨v',z⟩:=I.cell x c e;exact⟨v',cellK x c e v' z⟩
 ·obtain⟨e,a2,ne,a3⟩:=I.pin p hp;exact⟨k p.1 p.2 ne e,a2,ne,a3⟩
 ·refine(I.hok b u e).stay (fun c v' hc q=>k c v' (fun z=>?_) q) (fun _ q=>q) fun _ _ q=>q;subst z;rcases hc with z|z
  ·rw[<-z,I.free]at e;cases e
  ·rw[I.free]at z;cases z
 ·rw[List.length_set];exact I.len
noncomputable def Ends.gone(D:Ends)(i:Nat):Ends:={D with nx:=fun σ H=>D.nx (σ.set i none) H,bk:=fun σ H=>D.bk (σ.set i none) H,ct:=fun σ H=>D.ct (σ.set i none) H}
theorem Cd{D:Ends}{f:Flow}{i:Nat}{n:Str}{pos:Pos}{E:Value->Shared->Prop}(hN:X.N.Nodup)(hi:X.N[i]?=some n)(hl:X.env.kindOf n=some .local)(hk:X.env.scope.kind=.function)(h:SP X pins (D.gone i) f s):
  wpAny (model X.prog X.w) X.A (do bindName X.env n .none;unbindBehindTheSuite X.env n pos) (fun _ s'=>SP X pins D f s') E s:=by
 have go:∀{σ':St}{H':Hp}{R:Shared->Prop},Inv X pins σ' H' s->(∀s',Inv X pins (σ'.set i none) H' s'->R s')->wpAny (model X.prog X.w) X.A (do bindName X.env n .none;unbindBehindTheSuite X.env n pos) (fun _ s'=>R s') E s:=fun {σ' H' R} J q=>by obtain⟨m,hn,hm⟩:=id J.loc;refine wpAny_nameGoes_keeps hl hn (by rw[hk];rfl) fun h' v hn' sb=>q _ (J.nameGone hN hi hm hn' sb)
 cases f with
 |next=>obtain⟨σ',H',J,q⟩:=h;exact go J fun s' J'=>⟨_,H',J',q⟩
 |brk=>obtain⟨σ',H',J,q⟩:=h;exact go J fun s' J'=>⟨_,H',J',q⟩
 |cont=>obtain⟨σ',H',J,q⟩:=h;exact go J fun s' J'=>⟨_,H',J',q⟩
 |ret u=>obtain⟨v,σ',H',J,r,q⟩:=h;exact go J fun s' J'=>⟨v,_,H',J',r,q⟩
end
abbrev Bd(n:Nat)(i:Int):Prop:=Builtin.Int.intBits i<=n
theorem Bd.of{n:Nat}{i:Int}(h:i.natAbs<2^n):Bd n i:=intBits_le_iff.mpr h
theorem Bd.lt{n:Nat}{i:Int}(h:Bd n i):i.natAbs<2^n:=intBits_le_iff.mp h
theorem Bd.mono{m n:Nat}{i:Int}(h:Bd m i)(z:m<=n):Bd n i:=G0 h z
theorem Bd.le{n:Nat}{i j:Int}(h:Bd n j)(z:i.natAbs<=j.natAbs):Bd n i:=intBits_le_of_natAbs z h
theorem Bd.log2{n:Nat}{i:Int}(h:Bd n i)(z:n<9000):i.natAbs.log2<9000:=by
 by_cases e:i.natAbs=0
 ·rw[e];decide
 ·rw[Nat.log2_lt e];exact Gx h.lt (Hb (by decide) (HQ z))
theorem Aw(a b:Int):Int.gcd b (a.fmod b)=Int.gcd a b:=by
 have e:=Int.mul_fdiv_add_fmod a b;apply Nat.dvd_antisymm
 ·have h1:=Int.gcd_dvd_left b (a.fmod b);have h2:=Int.gcd_dvd_right b (a.fmod b);refine Int.dvd_gcd ?_ h1;have:=Int.dvd_add (Int.dvd_mul_of_dvd_left (c:=a.fdiv b) h1) h2;rwa[e]at this
 ·have h1:=Int.gcd_dvd_left a b;have h2:=Int.gcd_dvd_right a b;refine Int.dvd_gcd h2 ?_;have e2:a.fmod b=a-b*a.fdiv b:=by omega
  rw[e2];exact Int.dvd_sub h1 (Int.dvd_mul_of_dvd_left h2)
theorem Az(a:Int){b:Int}(h:b≠0):(a.fmod b).natAbs<b.natAbs:=by
 rcases Int.lt_or_gt_of_ne h with z|z
 ·have e:=Int.neg_fmod_neg a b;have h1:=Int.fmod_lt_of_pos (-a) (show 0< -b by lia);have h2:=Int.fmod_nonneg_of_pos (-a) (show 0< -b by omega);omega
 ·have h1:=Int.fmod_lt_of_pos a z;have h2:=Int.fmod_nonneg_of_pos a z;omega
noncomputable def frT(t b:Int):Int:=t / (Int.gcd t b:Int)
noncomputable def frB(t b:Int):Int:=b / (Int.gcd t b:Int)
section
variable{t b p q:Int}
theorem D9(t b:Int):frT t b*(Int.gcd t b:Int)=t:=Int.ediv_mul_cancel (Int.gcd_dvd_left t b)
theorem Cg(t b:Int):frB t b*(Int.gcd t b:Int)=b:=Int.ediv_mul_cancel (Int.gcd_dvd_right t b)
theorem jM(h:0<b):(0:Int)<(Int.gcd t b:Int):=by have:=Int.gcd_pos_of_ne_zero_right t (b:=b) (by omega);omega
theorem xD(h:0<b):0<frB t b:=by
 have e:=Cg t b;have g:=jM (t:=t) h;rcases Int.lt_trichotomy (frB t b) 0 with z|z|z
 ·have:=Int.mul_neg_of_neg_of_pos z g
  lia
 ·rw[z]at e
  lia
 ·exact z
theorem Ea(h:0<b):Int.gcd (frT t b) (frB t b)=1:=by
 have g:=jM (t:=t) h;have e1:=congrArg Int.natAbs (D9 t b);have e2:=congrArg Int.natAbs (Cg t b);rw[Int.natAbs_mul,Int.natAbs_natCast]at e1 e2;have e3:Int.gcd t b=Nat.gcd (frT t b).natAbs (frB t b).natAbs*Int.gcd t b:=by
  conv=>lhs;unfold Int.gcd
  rw[<-e1,<-e2,Nat.gcd_mul_right]
 have:Nat.gcd (frT t b).natAbs (frB t b).natAbs=1:=by
  have g':0<Int.gcd t b:=by omega
  have:=Nat.eq_of_mul_eq_mul_right g' (show Nat.gcd (frT t b).natAbs (frB t b).natAbs*Int.gcd t b=1*Int.gcd t b by lia);exact this
 exact this
theorem Ay(t b:Int):frT t b*b=frB t b*t:=by
 have e1:=D9 t b;have e2:=Cg t b;have a1:frT t b*b=frT t b*(frB t b*(Int.gcd t b:Int)):=by rw[e2]
 have a2:frB t b*t=frB t b*(frT t b*(Int.gcd t b:Int)):=by rw[e1]
 rw[a1,a2];exact Int.mul_left_comm _ _ _
theorem Bd.gcd{n:Nat}(h:Bd n b)(hb:b≠0):Bd n (Int.gcd t b:Int):=h.le (by
 rw[Int.natAbs_natCast]
 exact Nat.le_of_dvd (by lia) (Nat.gcd_dvd_right t.natAbs b.natAbs))
end
noncomputable def rg(mg:Str->Option Value)(x:Str):Value:=(mg x).getD .none
theorem xq{K:Frag}{h:Heap}{mg:Str->Option Value}{x:Str}(X:K.In h)(G:h.Ns mainGlobals mg)(a:nsIn K mainGlobals x=some none):mg x=none:=Hk X G a
theorem Fu{i:Int}(h1: -10000000000000000000000000000000000000000000000000000000000000<=i)(h2:i<=10000000000000000000000000000000000000000000000000000000000000):Bd 250 i:=Bd.of (by
 have e:(2:Nat)^250=1809251394333065553493296640760748560207343510400633813116524750123642650624:=by decide
 rw[e]
 omega)
theorem Fh{K:Frag}{H:Hp}(x y:Int):ff K H [.int x,.int y] [.int x,.int y]:=.cons (.int _) (.cons (.int _) .nil)
section
variable{X:Cx}
noncomputable def FY(K:Frag)(neg:Bool):R2:=fun x y H Q=>∃d ds,IsD K H d x/\(IsD K H (.list ds) y\/IsD K H (.tuple ds) y)/\d.canLay0=true/\PyData.canLayAll0 ds=true/\d.depth<=50/\Q (.bl (if neg then !(ds.any fun e=>PyData.eqv e d)else ds.any fun e=>PyData.eqv e d)) H
theorem nz(hu:X.A.units+64<cLine):OpR X (compareOp .NotIn) (FY X.K true):=by
 intro pins s σ H x y v u Q I rx ry h;obtain⟨d,ds,h1,h2,c1,c2,hd,q⟩:=h;obtain⟨as,ra⟩:=IsD.reads I h1 rx;have hm:=Nat.min_le_right (PyData.depthAll ds) d.depth;rcases h2 with h2|h2
 ·obtain⟨bs,rb⟩:=IsD.reads I h2 ry;exact SeqAt.notIn_list_reads rb ra c2 c1 (by lia) (show EP X pins σ Q _ s from⟨.bl _,H,I,rfl,q⟩)
 ·obtain⟨bs,rb⟩:=IsD.reads I h2 ry;exact SeqAt.notIn_tuple_reads rb ra c2 c1 (by omega) (show EP X pins σ Q _ s from⟨.bl _,H,I,rfl,q⟩)
end
theorem KV.len{kvs:List (Key×V)}{vs:List (Key×Value)}(r:KV kvs vs):kvs.length=vs.length:=Gw r
theorem KV.at:∀{kvs:List (Key×V)}{vs:List (Key×Value)},KV kvs vs->∀{i:Nat}{k:Key}{u:Value},vs[i]?=some (k,u)->∃v,kvs[i]?=some (k,v)
 |_,_,.nil,_,_,_,e=>by simp at e
 |_::_,_::_,.cons r t,0,k,u,e=>by simp at e;subst e;obtain⟨rk,rv⟩:=r;exact⟨_,by simp;exact Prod.ext rk rfl⟩
 |_::_,_::_,.cons r t,i+1,k,u,e=>by obtain⟨v,q⟩:=KV.at t (i:=i) (k:=k) (u:=u) (by simpa using e);exact⟨v,by simpa using q⟩
theorem BC{P:Program}{w:World}{k:Key}{v:Value}(h:(bx P w).is k v=true):RelV (kV k) v:=by
 rcases bZ (show qq k v=true from h)with⟨i,t,rfl,rfl⟩|⟨x,t,rfl,rfl⟩
 ·exact⟨t,rfl⟩
 ·exact⟨t,rfl⟩
theorem pB{vs:List Value}{ns:List Int}(hI:IntsAre vs ns):Vals (ns.map V.int) vs:=by
 induction hI with
 |nil=>exact .nil
 |cons n t h ih=>exact .cons ⟨t,rfl⟩ (ih)
section
variable{X:Cx}
theorem ve{P:Program}{w:World}{vs:List (Key×Value)}:∀{kvs:List (Key×V)}{acc:List Value},KV kvs vs->acc.length=kvs.length->(∀(j:Nat)(v:Value),acc[j]?=some v->∃(k:Key)(x:Value),vs[j]?=some (k,x)/\(bx P w).is k v=true)->Vals (kvs.map fun p=>kV p.1) acc:=by
 intro kvs acc r hl hs;have:∀(n:Nat)(kvs:List (Key×V))(acc:List Value),kvs.length=n->acc.length=n->(∀(j:Nat)(v:Value),acc[j]?=some v->∃(k:Key)(x:V),kvs[j]?=some (k,x)/\(bx P w).is k v=true)->Vals (kvs.map fun p=>kV p.1) acc:=by
  intro n
  induction n with
  |zero=>intro kvs acc h1 h2 _;rw[List.length_eq_zero_iff]at h1 h2;subst h1 h2;exact .nil
  |succ n ih=>
   intro kvs acc h1 h2 hs
   match kvs,acc,h1,h2,hs with
   |(k0,x0)::kvs,v0::acc,h1,h2,hs=>obtain⟨k,x,e,z⟩:=hs 0 v0 rfl;simp at e;obtain⟨rfl,rfl⟩:=e;exact .cons (BC z) (ih kvs acc (by simpa using h1) (by simpa using h2) fun j v e=>by simpa using hs (j+1) v (by simpa using e))
 refine this kvs.length kvs acc rfl hl fun j v e=>?_;obtain⟨k,x,h1,h2⟩:=hs j v e;obtain⟨y,hy⟩:=KV.at r h1;exact⟨k,y,hy,h2⟩
theorem qC(hc:X.calm=true):fE X (.builtin "sorted") (fun xs H Q=>∃(p:Addr)(kvs:List (Key×V))(ns:List Int),xs=[.ref p]/\Rd H p (.dK kvs)/\(kvs.map fun q=>kV q.1)=ns.map V.int/\ns.length<64/\∀(l:Addr)(ns':List Int),H l=none->ns'.Perm ns->ns'.Pairwise (·<=·)->Q (.ref l) (upd H l (.lst (ns'.map V.int)))):=by
 intro pins s σ H xs us Q I r h;obtain⟨p,kvs,ns,rfl,hx,hk,h64,q⟩:=h;obtain⟨u,rfl,ru⟩:=vals1 r;cases ru;have ho:b9 X.prog X.w H s.heap p (.dK kvs):=by
  rcases hx with hx|⟨o,hx⟩
  ·exact I.hok p _ hx
  ·exact(I.hok p _ hx).2
 obtain⟨hz,hs,vs,rv,hD⟩:=ho;obtain⟨ep,hat⟩:=hD.dictAt;have hl:=rv.len;have hkl:=congrArg List.length hk;rw[Gh,Gh]at hkl;refine Calls.call_function_entry kind_sorted plain_sorted entry_sorted (args_sorted1 _) ?_;unfold Builtin.«sorted»;refine Gg (m:=checkCount "sorted" 1 1 _) (Gj ?_);refine Gg (PySem.W.kdu_collect (PySem.W.kdl_dict (knd:=bx X.prog X.w) (kvs:=vs) (ep:=ep) hs) (I.ok.hd hc) hat (by lia) fun h' tk acc hkeep hacc=>?_);have al:acc.toList.length=kvs.length:=by rw[Hh,hacc.1,hl]
 have va:=ve rv al fun j v e=>hacc.2 j v (by rw[<-HU];exact e);rw[hk]at va;have I1:=I.kept (t':=tk) hkeep;refine Gg (wpAny_newList ?_ (by lia));have gD:(h'.push (seqObj "list" acc.toList.toArray 0)).get? h'.objs.size=some (seqObj "list" acc.toList.toArray 0):=GO _ rfl;have fr:H h'.objs.size=none:=I1.hok.fresh (Gr _);refine Gg (Hr (HD slot_list_sort ⟨_,gD,rfl⟩ entry_list_sort (list_sort_tree gD (intsAre_of va) (by lia) fun out ns' hi pm so=>⟨_,rfl,?_⟩) (args_list_sort _)));obtain⟨e,he⟩:=sortedHeap_at (out:=out) gD;have pl':=pm.length_eq;refine Gj ⟨_,rfl,.ref _,_,I1.track (t':=tk) (n:=e) (its:=out.toList) (I1.fpOk (Gr _) fr) (fun b o hb z=>?_) (pB hi) (by rw[Gh,Hl];lia) he,rfl,q _ ns' fr pm so⟩;have lt:=GG z;rw[sortedHeap_old hb (by rw[size_push'];exact Nat.lt_succ_of_lt lt)];exact Gi _ z
theorem sj(hc:X.calm=true):fE X (.builtin "sum") (fun xs H Q=>∃(p:Addr)(ns:List Int),xs=[.ref p]/\SqL X.K H p (ns.map V.int)/\Q (.int ns.sum) H):=by
 intro pins s σ H xs us Q I r h;obtain⟨p,ns,rfl,hx,q⟩:=h;obtain⟨u,rfl,ru⟩:=vals1 r;cases ru;obtain⟨vs,rv,pl,hz⟩:=I.list hx;have hi:=intsAre_of rv;obtain⟨ys,e⟩:=hi.allInts.items;have hns:ns=ys.toList.map (·.1):=by rw[<-hi.numsOf,<-nums_intItems,<-e]
 have hl:=pl.isList;rw[e]at hl;refine sum_intListG (I.ok.hd hc) hl fun h' tk t' hk=>?_;refine⟨.int ns.sum,H,I.kept hk,⟨t',?_⟩,q⟩;rw[preSum_eq,List.take_of_length_le (by simp),hns]
theorem yT(hc:X.calm=true):fE X (.builtin "max") (fun xs H Q=>∃(p:Addr)(ns:List Int),xs=[.ref p]/\SqL X.K H p (ns.map V.int)/\0<ns.length/\∀m,m∈ns->(∀a,a∈ns->a<=m)->Q (.int m) H):=by
 intro pins s σ H xs us Q I r h;obtain⟨p,ns,rfl,hx,hne,q⟩:=h;obtain⟨u,rfl,ru⟩:=vals1 r;cases ru;obtain⟨vs,rv,pl,hz⟩:=I.list hx;have hi:=intsAre_of rv;obtain⟨ys,e⟩:=hi.allInts.items;have hns:ns=ys.toList.map (·.1):=by rw[<-hi.numsOf,<-nums_intItems,<-e]
 have hsz:0<ys.size:=by have h3:=hne;rw[hns,Gh,Hh]at h3;exact h3
 have hl:=pl.isList;rw[e]at hl;refine max_intList (I.ok.hd hc) hl hsz fun v h' tk hv hk=>?_;obtain⟨t,rfl⟩:=intItems_at hv;obtain⟨h1,h2⟩:=argBest_gt (numAt ys) (ys.size-1);refine⟨.int _,H,I.kept hk,⟨t,rfl⟩,q _ ?_ fun a ha=>?_⟩
 ·rw[hns,numAt_eq];exact getD_mem (by rw[Gh,Hh];omega)
 ·rw[hns]at ha;obtain⟨j,hj,rfl⟩:=mem_getD ha;rw[Gh,Hh]at hj;rw[<-numAt_eq];exact h2 j (by lia)
noncomputable def sW(x:Str)(k:Nat):Str:=⟨(List.replicate k x.cps).foldl (·++·) #[]⟩
theorem uG(x:Str)(k:Nat):(sW x k).length=x.length*k:=by
 have:∀(k:Nat)(a:Array Nat),((List.replicate k x.cps).foldl (·++·) a).size=a.size+x.cps.size*k:=by
  intro k
  induction k with
  |zero=>intro a;simp
  |succ k ih=>
   intro a;rw[List.replicate_succ,List.foldl_cons,ih,Array.size_append,Nat.mul_succ]
   lia
 have h:=this k #[];show((List.replicate k x.cps).foldl (·++·) #[]).size=x.cps.size*k;rw[h];simp
theorem BP:OpR X (binaryOp .Mult) (fun x y H Q=>∃z n,x=.str z/\y=.int n/\0<=n/\n<=1000/\z.length<=1000/\Q (.str (sW z n.toNat)) H):=by
 intro pins s σ H x y v u Q I rx ry h;obtain⟨z,n,rfl,rfl,h0,h1,h2,q⟩:=h;obtain⟨t,rfl⟩:=rx;obtain⟨t',rfl⟩:=ry;have hm:z.length*n.toNat<=1000*1000:=Nat.mul_le_mul h2 (by lia);have hs:1000*1000<=sizeLine:=by decide
 refine P.mul_str ?_ (fun h3 h4 h5=>?_) (fun h3 h4=>?_) ?_
 ·rw[GZ (by lia),GZ (by lia)];rfl
 ·have e:=Int.ediv_mul_le ((2:Int)^63-1) (b:=n) (by omega);have:(2:Int)^63-1<((2^63-1) / n+1)*n:=by
   have:=Int.lt_ediv_add_one_mul_self ((2:Int)^63-1) (show 0<n by omega);exact this
  have h6:((2:Int)^63-1) / n<z.length:=h5;have h7:((2:Int)^63-1) / n+1<=1000:=by lia
  have h8:((2^63-1) / n+1)*n<=1000*1000:=by refine Int.le_trans (Int.mul_le_mul_of_nonneg_right h7 h0) ?_;exact Int.mul_le_mul_of_nonneg_left h1 (by decide)
  lia
 ·show decide (z.length*n.toNat>sizeLine)=false;exact GZ (by lia)
 ·by_cases h3:n<1
  ·rw[Gz h3];have e:n=0:=(by lia);subst e;exact⟨by decide,.str (sW z 0),H,I.tok _,⟨_,rfl⟩,q⟩
  ·rw[Gu h3];by_cases h4:(n==1||z.length==0)=true
   ·rw[Gz h4];have e:sW z n.toNat=z:=by
     rw[Bool.or_eq_true,beq_iff_eq,beq_iff_eq]at h4;rcases h4 with h4|h4
     ·subst h4;show(⟨#[]++z.cps⟩:Str)=z;simp
     ·have l0:=uG z n.toNat;rw[h4,Nat.zero_mul]at l0;have e1:(sW z n.toNat).cps= #[]:=Array.eq_empty_of_size_eq_zero l0;have e2:z.cps= #[]:=Array.eq_empty_of_size_eq_zero h4;cases z;cases hr:sW _ _;simp_all
    rw[e]at q;exact⟨.str z,H,I,⟨_,rfl⟩,q⟩
   ·rw[Gu h4];refine⟨?_,.str (sW z n.toNat),H,I.tok _,⟨_,rfl⟩,q⟩;have l0:=uG z n.toNat;show(sW z n.toNat).length<=sizeLine
    lia
theorem zx:SlR X (fun x lo hi H Q=>∃z,x=.str z/\z.length<=sizeLine/\Q (.str (Txt.slice z lo hi)) H):=by
 intro pins s σ H x v vl vu lo hi sl Q I rx hs pl pu h;obtain⟨z,rfl,hz,q⟩:=h;obtain⟨t,rfl⟩:=rx;obtain⟨o,ho,hc,hd⟩:=hs;cases pl with
 |none=>
  cases pu with
  |none=>exact⟨"str",_,F.slot_str_getitem.lookup,typeIs_str _ _ _,wpAny_getItem_str_slice (l:=none) (u:=none) (st:=none) ⟨o,ho,hc,hd⟩ rfl (post_val_or_str ⟨G0 (Txt.slice_le z _ _) hz,fun t' k=>⟨.str _,H,I.tok _,⟨_,rfl⟩,q⟩⟩)⟩
  |int j uj=>exact⟨"str",_,F.slot_str_getitem.lookup,typeIs_str _ _ _,wpAny_getItem_str_slice (l:=none) (u:=some (j,uj)) (st:=none) ⟨o,ho,hc,hd⟩ rfl (post_val_or_str ⟨G0 (Txt.slice_le z _ _) hz,fun t' k=>⟨.str _,H,I.tok _,⟨_,rfl⟩,q⟩⟩)⟩
 |int i ui=>
  cases pu with
  |none=>exact⟨"str",_,F.slot_str_getitem.lookup,typeIs_str _ _ _,wpAny_getItem_str_slice (l:=some (i,ui)) (u:=none) (st:=none) ⟨o,ho,hc,hd⟩ rfl (post_val_or_str ⟨G0 (Txt.slice_le z _ _) hz,fun t' k=>⟨.str _,H,I.tok _,⟨_,rfl⟩,q⟩⟩)⟩
  |int j uj=>exact⟨"str",_,F.slot_str_getitem.lookup,typeIs_str _ _ _,wpAny_getItem_str_slice (l:=some (i,ui)) (u:=some (j,uj)) (st:=none) ⟨o,ho,hc,hd⟩ rfl (post_val_or_str ⟨G0 (Txt.slice_le z _ _) hz,fun t' k=>⟨.str _,H,I.tok _,⟨_,rfl⟩,q⟩⟩)⟩
end
section
variable{X:Cx}{K:Frag}
theorem BK{es:List Expr}{k:Nat}{t:TGs}{n:Nat}{pos:Pos}(hK:X.K=K)(hc:X.calm=true)(h:PGs X es t)
 (hn:(assignEach es X.env).length=n:=by rfl) (hst:(assignEach es X.env).findIdx? (·.1)=none:=by rfl):PG X (.Tuple es k pos) (Cf K n t):=hK▸nq hc h hn hst
theorem Bg{n m i j:Nat}(hi:i<n)(hj:j<n)(hij:i≠j):∀x σ H R,σ.length=n+m->(∀(k:Nat),k<n->σ[k]?=some none)->Cf K 2 (vi (kH i) (vi (kH j) D7)) x σ H R->
  Cf K 2 (vi (kH i) (vi (kH j) D7)) x σ H fun σ2 H2=>Wk σ σ2/\R σ2 H2:=by
 intro x σ H R _ h0 h;obtain⟨a,xs,e,hq,hl,v,r,e1,v2,r2,e2,e3,h⟩:=h;refine⟨a,xs,e,hq,hl,v,r,e1,v2,r2,e2,e3,⟨by simp,fun k w e'=>?_⟩,h⟩;by_cases hk:k=i
 ·subst hk;rw[h0 _ hi]at e';cases e'
 ·by_cases hk2:k=j
  ·subst hk2;rw[h0 _ hj]at e';cases e'
  ·rw[List.getElem?_set_ne (HB hk2),List.getElem?_set_ne (HB hk)];exact e'
end
def EB(x:Str):Prop:=∀c∈x.cps.toList,97<=c/\c<=122
def Gd(x:Str):Prop:=EB x/\1<=x.length/\x.length<=8
theorem CA(x y:Str):(x++y).length=x.length+y.length:=by show(x.cps++y.cps).size=x.cps.size+y.cps.size;simp
noncomputable abbrev Sh:=List (Str×Int×Int)
noncomputable def shE(p:Str×Int×Int):PyData:=.tuple [.str p.1,.tuple [.int p.2.1,.int p.2.2]]
noncomputable def shD(S:Sh):PyData:=.tuple (S.map shE)
def ShE(K:Frag)(H:Hp)(v:V)(p:Str×Int×Int):Prop:=∃r q,v=.ref r/\SqT K H r [.str p.1,.ref q]/\SqT K H q [.int p.2.1,.int p.2.2]
def ShT(K:Frag)(H:Hp)(a:Addr)(S:Sh):Prop:=∃vs,SqT K H a vs/\Paired (ShE K H) vs S
def TK(H H':Hp):Prop:=(∀a xs,H a=some (.tup xs)->H' a=some (.tup xs))/\∀a o xs,H a=some (.frz o (.tup xs))->H' a=some (.frz o (.tup xs))
theorem ao.tk{H H':Hp}(s:ao H H'):TK H H':=⟨fun _ _ e=>s _ _ e,fun _ _ _ e=>s _ _ e⟩
theorem TK.trans{H H1 H2:Hp}(a:TK H H1)(b:TK H1 H2):TK H H2:=⟨fun x y e=>b.1 x y (a.1 x y e),fun x o y e=>b.2 x o y (a.2 x o y e)⟩
theorem TK.lst{H:Hp}{D:Addr}{xs:List V}{o:HO}(hD:H D=some (.lst xs)):TK H (upd H D o):=
 ⟨fun _ _ e=>by rw[av (jj e hD (fun z=>nomatch z))];exact e,fun _ _ _ e=>by rw[av (jj e hD (fun z=>nomatch z))];exact e⟩
theorem TK.sq{K:Frag}{H H':Hp}{a:Addr}{xs:List V}(t:TK H H')(h:SqT K H a xs):SqT K H' a xs:=by
 rcases h with(h|⟨o,h⟩)|h
 ·exact .inl (.inl (t.1 _ _ h))
 ·exact .inl (.inr ⟨o,t.2 _ _ _ h⟩)
 ·exact .inr h
theorem Paired.imp{α β:Type}{R R':α->β->Prop}(h:∀x y,R x y->R' x y){xs:List α}{ys:List β}(hI:Paired R xs ys):Paired R' xs ys:=by
 induction hI with
 |nil=>exact .nil
 |cons a b ih=>exact .cons (h _ _ a) (ih)
theorem ShE.tk{K:Frag}{H H':Hp}{v:V}{p:Str×Int×Int}(s:TK H H')(h:ShE K H v p):ShE K H' v p:=by obtain⟨r,q,e,h1,h2⟩:=h;exact⟨r,q,e,s.sq h1,s.sq h2⟩
theorem ShT.tk{K:Frag}{H H':Hp}{a:Addr}{S:Sh}(s:TK H H')(h:ShT K H a S):ShT K H' a S:=by obtain⟨vs,e,r⟩:=h;exact⟨vs,s.sq e,Paired.imp (fun _ _=>ShE.tk s) r⟩
theorem By{K:Frag}{H:Hp}{v:V}{p:Str×Int×Int}(h:ShE K H v p):IsD K H (shE p) v:=by obtain⟨r,q,rfl,h1,h2⟩:=h;exact .tup h1 (.cons (.str _) (.cons (.tup h2 (Fh _ _)) .nil))
theorem zy{K:Frag}{H:Hp}{vs:List V}{S:Sh}(hI:Paired (ShE K H) vs S):ff K H (S.map shE) vs:=by
 induction hI with
 |nil=>exact .nil
 |cons a b ih=>exact .cons (By a) (ih)
theorem ShT.isD{K:Frag}{H:Hp}{a:Addr}{S:Sh}(h:ShT K H a S):IsD K H (shD S) (.ref a):=by obtain⟨vs,e,r⟩:=h;exact .tup e (zy r)
theorem xt:∀(S:Sh),(∀p∈S,PyData.canLay0 (.str p.1)=true)->PyData.canLayAll0 (S.map shE)=true
 | [],_=>rfl
 |p::S,h=>by have h1:=h p (Gy ..);have h2:=xt S fun q hq=>h q (Gs _ hq);show(PyData.canLay0 (shE p)&&PyData.canLayAll0 (S.map shE))=true;rw[h2,Bool.and_true];show(PyData.canLay0 (.str p.1)&&true)=true;rw[h1];rfl
theorem DU{S:Sh}(h:∀p∈S,PyData.canLay0 (.str p.1)=true):(shD S).canLay0=true:=xt S h
theorem xH:∀(S:Sh),PyData.depthAll (S.map shE)<=3
 | []=>by show(0:Nat)<=3;decide
 |p::S=>by
  have h:=xH S;have h2:(shE p).depth<=3:=by show(2:Nat)<=3;decide
  show max _ _<=3;exact Nat.max_le.mpr ⟨h2,h⟩
theorem EB.lay{x:Str}(h:EB x):PyData.canLay0 (.str x)=true:=by show x.cps.all (·<0x110000)=true;rw[<-Array.all_toList,List.all_eq_true];intro c hc;have:=h c hc;exact GN (by lia)
theorem aQ{α β:Type}{R:α->β->Prop}:∀{xs:List α}{ys:List β}{i:Nat}{x:α},Paired R xs ys->xs[i]?=some x->∃y,ys[i]?=some y/\R x y
 |_,_,_,_,.nil,e=>by simp at e
 |_,_,0,_,.cons a _,e=>by simp at e;subst e;exact⟨_,rfl,a⟩
 |_,_,i+1,x,.cons _ b,e=>by obtain⟨y,h1,h2⟩:=aQ (i:=i) (x:=x) b (by simpa using e);exact⟨y,by simpa using h1,h2⟩
noncomputable abbrev Ws:=List (Str×Int)
noncomputable def iw(ws:Ws):Int:=(ws.map (·.2)).sum
theorem Paired.app{α β:Type}{R:α->β->Prop}{xs xs':List α}{ys ys':List β}(hI:Paired R xs ys):Paired R xs' ys'->Paired R (xs++xs') (ys++ys'):=by
 induction hI with
 |nil=>exact fun h=>h
 |cons a b ih=>exact fun h=>.cons a (ih h)
end L2
namespace L2
theorem Ci{t b:Int}(ht:0<t)(hb:0<b):0<frT t b:=by
 have e:=D9 t b;have g:=jM (t:=t) hb;rcases Int.lt_trichotomy (frT t b) 0 with z|z|z
 ·have:=Int.mul_neg_of_neg_of_pos z g
  lia
 ·rw[z]at e
  lia
 ·exact z
end L2
namespace L2
open PySem PySem.Spec PyProof.Rows
section
variable{X:Cx}
def E5(K:Frag):List V->Hp->VK->Prop:=fun xs H Q=>∃(x c:V)(a:Addr)(ys:List V)(b:Bool)(cv:Value),xs=[x,c]/\x=.ref a/\SqT K H a ys/\RelV c cv/\(∀u,RelV c u->u=cv)/\kitOne K (.type "tuple") cv=some b/\Q (.bl b) H
theorem AU:fE X (.builtin "isinstance") (E5 X.K):=by intro pins s σ H xs us Q I r h;obtain⟨x,c,a,ys,b,cv,rfl,rfl,hx,rc,uc,e,q⟩:=h;obtain⟨u1,u2,rfl,r1,r2⟩:=vals2 r;cases r1;obtain rfl:=uc u2 r2;obtain⟨its,rv,⟨o,h1,h2,_⟩,hz⟩:=I.tuple hx;exact HJ PySem.W.kitx_tuple I.kIn ⟨o,h1,h2⟩ e (fun z=>nomatch z) fun tk=>⟨.bl b,H,I.tok _,rfl,q⟩
end
def leS(a b:Str):Prop:=ltCps b.cps.toList a.cps.toList=false
theorem Bt{a b:Str}(h:a.cps.toList=b.cps.toList):a=b:=by cases a;cases b;congr 1;exact Array.toList_inj.mp h
structure Ez(f:Int×Int):Prop where
 pos:0<f.2
 cop:Int.gcd f.1 f.2=1
theorem xC(t:Int){b:Int}(h:0<b):Ez (frT t b,frB t b):=⟨xD h,Ea h⟩
noncomputable def FIN:Int:=1000000000000000000000000000000000000000000000000000000000000
theorem jZ{α:Type}{l:List α}{i:Nat}{x:α}(h:l[i]?=some x):l.drop i=x::l.drop (i+1):=by rw[List.drop_eq_getElem?_toList_append,h];rfl
theorem oH{K:Frag}{a:Addr}{xs:List V}{g:TG}{tt:TT}{te:TE}{σ0:St}{Q:Hp->Prop}{D:Addr}{H:Hp}(Pv:Nat->List V->Hp->Prop)(h0:Pv 0 [] H)(hl:∀i acc H,i<=xs.length->Pv i acc H->SqT K H a xs)
  (hs:∀i x acc H2,xs[i]?=some x->Pv i acc H2->g x σ0 H2 fun σ2 H4=>tt σ2 H4 fun b H5=>if b=true then te σ2 H5 fun y H6=>H6 D=some (.lst acc)/\acc.length<sizeLine/\Pv (i+1) (acc++[y]) (upd H6 D (.lst (acc++[y])))else Pv (i+1) acc H5)
  (hd:∀acc H2,Pv xs.length acc H2->Q H2):
  ∃W:Nat->Nat->List V->Hp->Prop,(∃m,W 0 m [] H)/\∀i m acc H2,W i m acc H2->
   ((Itt K a).stop i H2/\Q H2)\/((Itt K a).go i H2/\∃N:List V->Hp->Prop,(∀acc' H',N acc' H'->∃m',m'<m/\W (i+1) m' acc' H')/\∀x H3,(Itt K a).yld i H2 x H3->g x σ0 H3 fun σ2 H4=>tt σ2 H4 fun b H5=>if b=true then te σ2 H5 fun y H6=>H6 D=some (.lst acc)/\acc.length<sizeLine/\N (acc++[y]) (upd H6 D (.lst (acc++[y])))else N acc H5):=by
 refine⟨fun i m acc H=>m=xs.length-i/\i<=xs.length/\Pv i acc H,⟨xs.length,by simp,G1 _,h0⟩,?_⟩;rintro i m acc H2 ⟨rfl,hi,p⟩;have q:=hl i acc H2 hi p;by_cases hlt:i<xs.length
 ·refine .inr ⟨⟨xs,xs[i],q,by simp[hlt]⟩,Pv (i+1),fun acc' H' p'=>⟨xs.length-(i+1),by omega,rfl,hlt,p'⟩,fun x H3 y=>?_⟩;obtain⟨e,y⟩:=y;subst e;exact hs i x acc _ (y xs q) p
 ·have e:i=xs.length:=by omega
  subst e;exact .inl ⟨⟨xs,q,Gr _⟩,hd acc H2 p⟩
theorem u5{l:List Str}(h:∀x∈l,PyData.canLay0 (.str x)=true):PyData.canLayAll0 (l.map PyData.str)=true:=by
 induction l with
 |nil=>rfl
 |cons x l ih=>show(PyData.canLay0 (.str x)&&PyData.canLayAll0 (l.map PyData.str))=true;rw[h x (Gy ..),ih fun y hy=>h y (Gs _ hy)];rfl
theorem nM{K:Frag}{H:Hp}:∀(l:List Str),ff K H (l.map PyData.str) (l.map V.str)
 | []=>.nil
 |_::l=>.cons (.str _) (nM l)
noncomputable def Eb(t b:Int):Int×Int:=(frT t b,frB t b)
theorem Cj(t:Int){b:Int}(h:0<b):Ez (Eb t b):=xC t h
noncomputable def gX:Key->PyData
 | .inl i=>.int i
 | .inr x=>.str x
noncomputable def oQ(ks:List Key):PyData:=.tuple (ks.map gX)
noncomputable def lO(c:List (List Key)):PyData:=.tuple (c.map oQ)
noncomputable def u9:Key->Bool
 | .inl _=>true
 | .inr x=>PyData.canLay0 (.str x)
theorem xv(a b:Key):PyData.eqv (gX a) (gX b)=decide (a=b):=by
 cases a with
 |inl i=>
  cases b with
  |inl j=>
   show(i==j)=_;by_cases h:i=j
   ·subst h;simp
   ·simp[h]
  |inr y=>rfl
 |inr x=>
  cases b with
  |inl j=>rfl
  |inr y=>
   show(x==y)=_;by_cases h:x=y
   ·subst h;simp
   ·simp[h]
theorem w8:∀(a b:List Key),PyData.eqvAll (a.map gX) (b.map gX)=decide (a=b)
 | [],[]=>rfl
 | [],_::_=>rfl
 |_::_,[]=>rfl
 |x::a,y::b=>by
  show(PyData.eqv (gX x) (gX y)&&PyData.eqvAll (a.map gX) (b.map gX))=_;rw[xv,w8 a b];by_cases h1:x=y
  ·by_cases h2:a=b
   ·simp[h1,h2]
   ·simp[h1,h2]
  ·simp[h1]
theorem qz:∀(a b:List (List Key)),PyData.eqvAll (a.map oQ) (b.map oQ)=decide (a=b)
 | [],[]=>rfl
 | [],_::_=>rfl
 |_::_,[]=>rfl
 |x::a,y::b=>by
  show(PyData.eqvAll (x.map gX) (y.map gX)&&PyData.eqvAll (a.map oQ) (b.map oQ))=_;rw[w8,qz a b];by_cases h1:x=y
  ·by_cases h2:a=b
   ·simp[h1,h2]
   ·simp[h1,h2]
  ·simp[h1]
theorem Cu(a b:List (List Key)):PyData.eqv (lO a) (lO b)=decide (a=b):=qz a b
theorem xu:∀(r:List Key),(∀k∈r,u9 k=true)->PyData.canLayAll0 (r.map gX)=true
 | [],_=>rfl
 |k::r,h=>by
  have h1:PyData.canLay0 (gX k)=true:=by
   have:=h k (Gy ..);cases k with
   |inl i=>rfl
   |inr x=>exact this
  show(PyData.canLay0 (gX k)&&PyData.canLayAll0 (r.map gX))=true;rw[h1,xu r fun x hx=>h x (Gs _ hx)];rfl
theorem pj:∀(c:List (List Key)),(∀r∈c,∀k∈r,u9 k=true)->PyData.canLayAll0 (c.map oQ)=true
 | [],_=>rfl
 |r::c,h=>by show(PyData.canLayAll0 (r.map gX)&&PyData.canLayAll0 (c.map oQ))=true;rw[xu r (h r (Gy ..)),pj c fun x hx=>h x (Gs _ hx)];rfl
theorem xI:∀(r:List Key),PyData.depthAll (r.map gX)=0
 | []=>rfl
 |k::r=>by show max (gX k).depth (PyData.depthAll (r.map gX))=0;rw[xI r];cases k<;>rfl
theorem vt:∀(c:List (List Key)),PyData.depthAll (c.map oQ)<=1
 | []=>by show(0:Nat)<=1;decide
 |r::c=>by
  have h:=vt c;have h2:(oQ r).depth<=1:=by show PyData.depthAll (r.map gX)+1<=1;rw[xI];decide
  show max _ _<=1;exact Nat.max_le.mpr ⟨h2,h⟩
theorem xJ(c:List (List Key)):(lO c).depth<=2:=by
 have:=vt c;show PyData.depthAll (c.map oQ)+1<=2
 lia
section
variable{P:Program}{w:World}
inductive dh(P:Program)(w:World)(h:Heap):List (List Key)->List Value->Prop
 |nil:dh P w h [] []
 |cons {k:List Key} {a:Addr} {ks:List (List Key)} {vs:List Value}:IsTupleKey (bx P w) h k a->dh P w h ks vs->dh P w h (k::ks) (.ref a::vs)
def gn(P:Program)(w:World)(h:Heap)(c:List (List Key))(a:Addr):Prop:=
 (∀r∈c,∀k∈r,u9 k=true)/\∃ob its n,h.get? a=some ob/\ob.cls=.type "tuple"/\ob.data=.seq its n/\dh P w h c its.toList
theorem dh.one{h:Heap}{x y:List (List Key)}{us:List Value}(p:dh P w h x us)(q:dh P w h y us):x=y:=by
 induction p generalizing y with
 |nil=>cases q;rfl
 |cons p1 _ ih=>
  cases q with
  |cons q1 q2=>rw[p1.inj q1,ih q2]
theorem gn.one{h:Heap}{x y:List (List Key)}{a:Addr}(p:gn P w h x a)(q:gn P w h y a):x=y:=by obtain⟨_,ob,its,n,p1,_,p3,p4⟩:=p;obtain⟨_,ob',its',n',q1,_,q3,q4⟩:=q;rw[p1]at q1;cases q1;rw[p3]at q3;injection q3 with e _;subst e;exact p4.one q4
theorem dh.stay{h h':Heap}{c:List (List Key)}{us:List Value}{d:Addr}{o:Obj}{es:Array DictEntry}{ep:Nat}(p:dh P w h c us)(ho:h.get? d=some o)(hd:o.data=.dict es ep)(hs:Heap.SameBut d h h'):dh P w h' c us:=by
 induction p with
 |nil=>exact .nil
 |cons p1 _ ih=>exact .cons (p1.keeps ho hd hs) ih
theorem gn.stay{h h':Heap}{c:List (List Key)}{a d:Addr}{o:Obj}{es:Array DictEntry}{ep:Nat}(p:gn P w h c a)(ho:h.get? d=some o)(hd:o.data=.dict es ep)(hs:Heap.SameBut d h h'):gn P w h' c a:=by
 obtain⟨l,ob,its,n,p1,p2,p3,p4⟩:=p;have ne:a≠d:=fun z=>by rw[z,ho]at p1;cases p1;rw[hd]at p3;cases p3
 exact⟨l,ob,its,n,(hs.2 a ne).trans p1,p2,p3,p4.stay ho hd hs⟩
theorem gn.tyIs{s:Shared}{c:List (List Key)}{a:Addr}(p:gn P w s.heap c a):s.TypeIs (.ref a) "tuple":=by obtain⟨_,ob,_,_,p1,p2,_⟩:=p;exact⟨ob,p1,p2⟩
theorem qP{h:Heap}{ks:List Key}{us:List Value}(hI:ItemsAre (bx P w) ks us):∃as,ReadsAll h us (ks.map gX) as:=by
 induction hI with
 |nil=>exact⟨_,.nil⟩
 |cons p1 p2 ih=>
  obtain⟨as,r⟩:=ih;rcases bZ p1 with⟨i,t,rfl,rfl⟩|⟨x,t,rfl,rfl⟩
  ·exact⟨_,.cons (.int i t) r⟩
  ·exact⟨_,.cons (.str x t) r⟩
theorem vQ{h:Heap}{c:List (List Key)}{us:List Value}(hI:dh P w h c us):∃as,ReadsAll h us (c.map oQ) as:=by
 induction hI with
 |nil=>exact⟨_,.nil⟩
 |cons p1 p2 ih=>obtain⟨as,r⟩:=ih;obtain⟨ob,its,n,q1,q2,q3,q4⟩:=p1;obtain⟨bs,r2⟩:=qP (h:=h) q4;exact⟨_,.cons (.tuple q1 q2 q3 r2) r⟩
theorem gn.reads{h:Heap}{c:List (List Key)}{a:Addr}(p:gn P w h c a):∃as,Reads h (.ref a) (lO c) as:=by obtain⟨_,ob,its,n,p1,p2,p3,p4⟩:=p;obtain⟨as,r⟩:=vQ p4;exact⟨_,.tuple p1 p2 p3 r⟩
noncomputable def uh(P:Program)(w:World)(c:List (List Key)):Int:=reduceHash (Builtin.Tuple.tupleHashOf (c.map (tupleKeyHash (bx P w))))
noncomputable def iK(c:List (List Key)):Nat:=(c.map fun r=>r.length+1).sum
variable{A:Around}{E:Value->Shared->Prop}{s:Shared}
theorem AS{c:List (List Key)}{a:Addr}{Q:Int->Shared->Prop}(room:A.units+3<cLine)(p:gn P w s.heap c a)(q:Q (uh P w c) {s with toks:=s.toks+(iK c+1)}):
  wpAny (model P w) A (pyHash (.ref a)) Q E s:=by
 have ty:=p.tyIs;obtain⟨_,ob,its,n,p1,_,p3,p4⟩:=p;unfold pyHash
 first|unfold pyHashByItsType|skip
 first|refine Gg (wpAny_cRoomFor_or (.inr (by lia)) ?_)|skip
 refine Gg (wpAny_specialOf ty F.slot_tuple_hash.lookup ?_);show wpAny _ _ (if(some (Value.builtin "tuple.__hash__")==some Value.none)=true then _ else _) Q E s;rw[Gu (by rw[beq_builtin_none];exact GJ)];refine Gg (wpAny_specialOf ty F.slot_tuple_hash.lookup ?_);show wpAny _ _ (callSpecialIfBoundUnlessNone? (.ref a) "__hash__" _>>= _) Q E s;refine Gg (wpAny_callSpecialIfBoundUnlessNone?_slot ty F.slot_tuple_hash (HD F.slot_tuple_hash ty F.entry_tuple_hash ?_ (F.args_tuple_hash_1 _)));show wpAny _ _ (Builtin.Tuple.tupleItemsOf (.ref a)>>= _) _ _ s;refine Gg (wpAny_tupleItemsOf p1 p3 (Gg ?_));rw[<-Array.forIn_toList];refine wpAny_forIn_list _ (fun left (acc:Array Int) s'=>∃c1 c2,c=c1++c2/\dh P w s.heap c2 left/\acc.toList=c1.map (tupleKeyHash (bx P w))/\s'={s with toks:=s.toks+iK c1}) _ ?_ ?_ _ _ ⟨[],c,rfl,p4,rfl,rfl⟩
 ·rintro u left acc s' ⟨c1,c2,rfl,r,e,rfl⟩;cases r with
  | @cons k b ks vs r1 r2=>
   refine Gg (wpAny_pyHash_tuple (ks:=k) (by simp only[Around.in1_units];lia) r1 ?_);have fin:∃d1 d2,c1++k::ks=d1++d2/\dh P w s.heap d2 left/\(acc.push (tupleKeyHash (bx P w) k)).toList=d1.map (tupleKeyHash (bx P w))/\({s with toks:=s.toks+iK c1+(k.length+1)}:Shared)={s with toks:=s.toks+iK d1}:=
    ⟨c1++[k],ks,by simp,r2,by simp[e],by simp[iK,Nat.add_assoc]⟩
   first
    |exact Gj fin
    |exact Gg (Gj (Gj fin))
 ·rintro acc s' ⟨c1,c2,rfl,r,e,rfl⟩;cases r;rw[GY]at q;show wpAny _ _ (retInt (Builtin.Tuple.tupleHashOf acc.toList)) _ _ _;rw[e];refine wpAny_ret_mkInt ?_;unfold uh reduceHash at q;generalize Builtin.Tuple.tupleHashOf (c1.map (tupleKeyHash (bx P w)))=z at q ⊢;show wpAny _ _ (if(decide (-(2:Int)^63<=z)&&decide (z<2^63))=true then _ else _) Q E _;by_cases hz:(decide (-(2:Int)^63<=z)&&decide (z<2^63))=true
  ·rw[Gz hz]at q ⊢;exact Gj (by simpa[Nat.add_assoc]using q)
  ·rw[Gu hz]at q ⊢;exact Gg (wpAny_rule (Gj (by simpa[Nat.add_assoc]using q)))
theorem Ek{x y:List (List Key)}{a b:Addr}{Q:Bool->Shared->Prop}(room:A.units+3<cLine)(p:gn P w s.heap x a)(q:gn P w s.heap y b)(h:Q (decide (x=y)) s):wpAny (model P w) A (eqBool (.ref a) (.ref b)) Q E s:=by obtain⟨as,ra⟩:=p.reads;obtain⟨bs,rb⟩:=q.reads;have dx:=xJ x;have dm:=Nat.min_le_left (lO x).depth (lO y).depth;rw[<-Cu]at h;exact SeqAt.eqAt_reads _ _ A s _ _ _ _ ra rb (pj x p.1) (pj y q.1) (by lia) P w E Q h
end
section
variable{P:Program}{w:World}{A:Around}{E:Value->Shared->Prop}{s:Shared}
theorem yg{k:List Key}{a:Addr}(m:Nat){Q:Bool->Shared->Prop}(p:IsTupleKey (bx P w) s.heap k a)(q:Q true s):wpAny (model P w) A (eqIsQuiet (m+1) (.ref a)) Q E s:=by
 have ty:=p.typeIs;obtain⟨ob,its,n,p1,_,p3,p4⟩:=p;unfold eqIsQuiet;refine Gg (wpAny_specialOf ty F.slot_tuple_eq.lookup ?_);show wpAny _ _ (isInstance (.ref a) (.type "tuple")>>= _) _ _ s;refine Gg (wpAny_isInstance ty isSubtype_tuple_tuple ?_);simp only[Bool.not_true,Hq,if_false];refine Gg (wpAny_seqItems p1 p3 (Gg ?_));show wpAny _ _ (forIn its _ _) _ _ s;rw[<-Array.forIn_toList];refine wpAny_forIn_list _ (fun left r s'=>r.1=none/\s'=s/\∀v∈left,carriedByValue v=true) _ ?_ ?_ _ _ ⟨rfl,rfl,p4.byValue⟩
 ·rintro u left r s' ⟨hr,rfl,all⟩;rw[eqIsQuiet_byValue m (all u Gy)];refine Gg (Gj ?_);simp only[Bool.not_true,Hq,if_false];exact Gj ⟨rfl,rfl,fun z hz=>all z (Gs _ hz)⟩
 ·rintro⟨r1,r2⟩ s' ⟨hr,rfl,_⟩;simp only at hr;subst hr;exact Gj q
theorem yR{c:List (List Key)}{a:Addr}{Q:Bool->Shared->Prop}(p:gn P w s.heap c a)(q:Q true s):wpAny (model P w) A (eqIsQuiet 8 (.ref a)) Q E s:=by
 have ty:=p.tyIs;obtain⟨_,ob,its,n,p1,_,p3,p4⟩:=p;unfold eqIsQuiet;refine Gg (wpAny_specialOf ty F.slot_tuple_eq.lookup ?_);show wpAny _ _ (isInstance (.ref a) (.type "tuple")>>= _) _ _ s;refine Gg (wpAny_isInstance ty isSubtype_tuple_tuple ?_);simp only[Bool.not_true,Hq,if_false];refine Gg (wpAny_seqItems p1 p3 (Gg ?_));show wpAny _ _ (forIn its _ _) _ _ s;rw[<-Array.forIn_toList];refine wpAny_forIn_list _ (fun left r s'=>r.1=none/\s'=s/\∃c2,dh P w s.heap c2 left) _ ?_ ?_ _ _ ⟨rfl,rfl,c,p4⟩
 ·rintro u left r s' ⟨hr,rfl,c2,r2⟩;cases r2 with
  |cons r3 r4=>refine Gg (yg 6 r3 ?_);simp only[Bool.not_true,Hq,if_false];exact Gj ⟨rfl,rfl,_,r4⟩
 ·rintro⟨r1,r2⟩ s' ⟨hr,rfl,_⟩;simp only at hr;subst hr;exact Gj q
end
noncomputable def m8(P:Program)(w:World):HeapKind P w (List (List Key)) where
 is:=gn P w
 hash:=uh P w
 draws:=fun c=>iK c+1
 room:=fun A=>A.units+3<cLine
 inj:=fun p q=>p.one q
 keeps:=fun p ho hd hs=>p.stay ho hd hs
 pyHash:=fun hu p q=>AS hu p q
 eqBool:=fun hu p q h=>Ek hu p q h
 quiet:=fun p q=>yR p q
noncomputable abbrev Col:=List (List Key)
noncomputable abbrev CT:=List (Col×Addr×V)
noncomputable def gh(a:Addr)(o:Obj):HO:=.ext fun h=>h.get? a=some o
theorem xp{P:Program}{w:World}{H:Hp}{h:Heap}{a:Addr}{o:Obj}(e:h.get? a=some o):b9 P w H h a (gh a o):=⟨e,⟨o,e⟩,fun _ _ e1 k=>k o e1⟩
noncomputable def gb:Obj:={cls:=.type "dict",data:=.dict #[]}
def CTv:CT->List (Col×Addr×Value)->Prop:=Paired fun(t:Col×Addr×V) (v:Col×Addr×Value)=>t.1=v.1/\t.2.1=v.2.1/\RelV t.2.2 v.2.2
structure ux(P:Program)(w:World)(o:Obj)(T:CT):Prop where
 ex:o.ExactDict
 len:T.length<=sizeLine
 es:∃es ep vs,o.data=.dict es ep/\es.toList=vs.map (entryOfKey (m8 P w))/\CTv T vs/\(vs.map (·.1)).Nodup
theorem qA(P:Program)(w:World):ux P w gb []:=⟨⟨rfl,rfl,rfl⟩,G1 _,#[],0,[],rfl,rfl,.nil,List.nodup_nil⟩
def bX(K:Frag)(H:Hp)(b:Addr)(c:Col):Prop:=(∀r∈c,∀k∈r,u9 k=true)/\∃xs,SqT K H b xs/\Paired (fun(v:V) (r:List Key)=>∃a,v=.ref a/\SqT K H a (r.map kV)) xs c
theorem bX.tk{K:Frag}{H H':Hp}{b:Addr}{c:Col}(t:TK H H')(h:bX K H b c):bX K H' b c:=by obtain⟨l,xs,h1,h2⟩:=h;exact⟨l,xs,t.sq h1,Paired.imp (fun _ _ ⟨a,e,z⟩=>⟨a,e,t.sq z⟩) h2⟩
theorem TK.obj{H:Hp}{D:Addr}{ob:Obj}{o:HO}(hD:H D=some (gh D ob)):TK H (upd H D o):=
 ⟨fun _ _ e=>by rw[av (jj e hD (fun z=>nomatch z))];exact e,fun _ _ _ e=>by rw[av (jj e hD (fun z=>nomatch z))];exact e⟩
noncomputable def atT(T:CT)(c:Col):Option V:=(T.find? fun t=>decide (t.1=c)).map (·.2.2)
noncomputable def kR(T:CT)(c:Col)(b:Addr)(v:V):CT:=if(T.any fun t=>decide (t.1=c))=true then T.map (fun t=>if t.1=c then(t.1,t.2.1,v)else t)else T++[(c,b,v)]
section
variable{X:Cx}{pins:List (Addr×Obj)}{σ:St}{H:Hp}{s:Shared}
theorem bX.is{b:Addr}{c:Col}(I:Inv X pins σ H s)(h:bX X.K H b c):gn X.prog X.w s.heap c b:=by
 obtain⟨l,xs,h1,h2⟩:=h;obtain⟨its,rv,⟨ob,e1,e2,n,e3⟩,_⟩:=I.tuple h1;refine⟨l,ob,its.toArray,n,e1,e2,e3,?_⟩;have key:∀{xs:List V}{its:List Value}{c:Col},Vals xs its->Paired (fun(v:V) (r:List Key)=>∃a,v=.ref a/\SqT X.K H a (r.map kV)) xs c->dh X.prog X.w s.heap c its:=by
  intro xs its c rv pr
  induction pr generalizing its with
  |nil=>cases rv;exact .nil
  |cons p1 _ ih=>
   obtain⟨a,rfl,ha⟩:=p1;cases rv with
   |cons r1 r2=>cases r1;obtain⟨its2,rv2,⟨ob2,f1,f2,n2,f3⟩,_⟩:=I.tuple ha;exact .cons ⟨ob2,its2.toArray,n2,f1,f2,f3,by simpa using nL rv2⟩ (ih r2)
 simpa using key rv h2
theorem Ct{T:CT}{vs:List (Col×Addr×Value)}(hI:CTv T vs):∀v∈vs,∃t∈T,t.1=v.1/\t.2.1=v.2.1:=by
 induction hI with
 |nil=>exact fun v hv=>by cases hv
 |cons a b ih=>
  intro v hv;rcases GH.mp hv with e|e
  ·subst e;exact⟨_,Gy ..,a.1,a.2.1⟩
  ·obtain⟨t,ht,h⟩:=ih v e;exact⟨t,Gs _ ht,h⟩
theorem ux.dict{d:Addr}{o:Obj}{T:CT}(I:Inv X pins σ H s)(hd:H d=some (gh d o))(ho:ux X.prog X.w o T)(hk:∀t∈T,bX X.K H t.2.1 t.1):∃vs,CTv T vs/\s.heap.DictOfH (m8 X.prog X.w) d vs:=by obtain⟨es,ep,vs,h1,h2,h3,h4⟩:=ho.es;have e:s.heap.get? d=some o:=(I.hok d _ hd).1;refine⟨vs,h3,o,es,ep,e,ho.ex,h1,h2,fun v hv=>?_,h4⟩;obtain⟨t,ht,e1,e2⟩:=Ct h3 v hv;rw[<-e1,<-e2];exact(hk t ht).is I
theorem wH{T:CT}{vs:List (Col×Addr×Value)}(h:CTv T vs):T.length=vs.length:=Gw h
theorem AR{c:Col}{T:CT}{vs:List (Col×Addr×Value)}(hI:CTv T vs):(atT T c=none/\atKey vs c=none)\/∃v p,atT T c=some v/\atKey vs c=some p/\RelV v p.2:=by
 induction hI with
 |nil=>exact .inl ⟨rfl,rfl⟩
 | @cons t u _ _ a b ih=>
  by_cases h:t.1=c
  ·have h':u.1=c:=a.1.symm.trans h;refine .inr ⟨t.2.2,u.2,?_,?_,a.2.2⟩
   ·simp[atT,G9,h]
   ·simp[atKey,G9,h']
  ·have h':¬u.1=c:=fun z=>h (a.1.trans z);have ih:=ih;simpa[atT,atKey,G9,h,h']using ih
theorem Ei{c:Col}{T:CT}{vs:List (Col×Addr×Value)}(hI:CTv T vs):(T.any fun t=>decide (t.1=c))=(atKey vs c).isSome:=by
 induction hI with
 |nil=>exact rfl
 | @cons t u _ _ a b ih=>
  have ih:=ih;rw[List.any_cons,ih];by_cases h:t.1=c
  ·have h':u.1=c:=a.1.symm.trans h;simp[atKey,G9,h,h']
  ·have h':¬u.1=c:=fun z=>h (a.1.trans z);simp[atKey,G9,h,h']
theorem Eh{c:Col}{v:V}{u:Value}(r:RelV v u){T:CT}{vs:List (Col×Addr×Value)}(hI:CTv T vs):CTv (T.map fun t=>if t.1=c then(t.1,t.2.1,v)else t) (vs.map (putAt c u)):=by
 induction hI with
 |nil=>exact .nil
 | @cons t q _ _ a b ih=>
  rw[GC,GC];refine .cons ?_ (ih);unfold putAt;by_cases h:t.1=c
  ·rw[Gz h,Gz (a.1.symm.trans h)];exact⟨a.1,a.2.1,r⟩
  ·rw[Gu h,Gu (fun z=>h (a.1.trans z))];exact a
theorem Eg{c:Col}{b:Addr}{v:V}{u:Value}(r:RelV v u){T:CT}{vs:List (Col×Addr×Value)}(h:CTv T vs):CTv (kR T c b v) (storedH vs c b u):=by
 unfold kR storedH;rw[Ei h];split
 ·exact Eh r h
 ·exact Paired.app h (.cons ⟨rfl,rfl,r⟩ .nil)
theorem zI(T:CT)(c:Col)(b:Addr)(v:V):(kR T c b v).length<=T.length+1:=by
 unfold kR;split
 ·rw[Gh];lia
 ·rw[Gn];simp
end
def Dl:TE:=fun _ H Q=>∀p,H p=none->(p==sysModules)=false->Q (.ref p) (upd H p (gh p gb))
def m9(P:Program)(w:World)(K:Frag)(H:Hp)(d:Addr)(o:Obj)(T:CT):Prop:=H d=some (gh d o)/\ux P w o T/\(d==sysModules)=false/\∀t∈T,bX K H t.2.1 t.1
def CN(P:Program)(w:World)(K:Frag)(td ty:TE):TE:=fun σ H Q=>td σ H fun x H1=>ty σ H1 fun y H2=>∃d o T b c v,x=.ref d/\m9 P w K H2 d o T/\y=.ref b/\bX K H2 b c/\atT T c=some v/\Q v H2
def Dm(P:Program)(w:World)(K:Frag)(td ty tx:TE):TE:=fun σ H Q=>td σ H fun x H1=>∃d o T,x=.ref d/\m9 P w K H1 d o T/\ty σ H1 fun y H2=>tx σ H2 fun z H3=>∃o' T' b c,m9 P w K H3 d o' T'/\y=.ref b/\bX K H3 b c/\Q ((atT T' c).getD z) H3
def EZ(P:Program)(w:World)(K:Frag)(td ty tv:TE):TS:=fun D σ H=>tv σ H fun v H1=>td σ H1 fun x H2=>ty σ H2 fun y H3=>∃d o T b c,x=.ref d/\m9 P w K H3 d o T/\y=.ref b/\bX K H3 b c/\T.length<1000/\∀o',ux P w o' (kR T c b v)->D.nx σ (upd H3 d (gh d o'))
section
variable{X:Cx}{o i e f value:Expr}{td ty tv tx:TE}{pos pos' apos cpos:Pos}
theorem uL:PE X (.Dict [] [] pos) Dl:=fun pins s σ H Q I h=>wpAny_Dict_empty ⟨.ref s.heap.objs.size,_,I.laid (a:=s.heap.objs.size) (o:=gh s.heap.objs.size gb) (t':=s.toks) (fun _ _ q=>Gi _ q) (Gr _) (xp (GO _ rfl)),rfl,h _ (I.hok.fresh (Gr _)) (beq_eq_false_iff_ne.mpr (HB (G5 I.big)))⟩
theorem tG(hu:X.A.units+64<cLine)(ho:PE X o td)(hi:PE X i ty)(hs:CG i):PE X (.Subscript o i pos) (CN X.prog X.w X.K td ty):=by
 intro pins s σ H Q I h;refine w4 PySem.F.slot_dict_getitem.lookup hs (thn (ho pins s σ H _ I h) fun u s1 hPz=>L2.ep3 hPz fun x H1 I1 rx q1=>thn (hi pins s1 σ H1 _ I1 q1) fun iv s2 hPz=>?_);obtain⟨y,H2,I2,ry,d,ob,T,b,c,v,ex,hc,ey,hb,hv,q2⟩:=hPz;subst ex ey;cases rx;cases ry;obtain⟨h1,h2,h3,h4⟩:=hc;obtain⟨vs,rv,DD⟩:=h2.dict I2 h1 h4;rcases AR (c:=c) rv with⟨z,_⟩|⟨v',p,z1,z2,z3⟩
 ·rw[hv]at z;cases z
 ·rw[hv]at z1;cases z1;exact⟨DD.typeIs,wpAny_getItem_heap (show X.A.in1.units+3<cLine by simp only[Around.in1_units];lia) (hb.is I2) DD z2 ⟨v,H2,I2.tok _,z3,q2⟩⟩
theorem xb(hu:X.A.units+64<cLine)(ho:PE X o td)(hi:PE X i ty)(hv:PE X value tv)(hs:swapsWith value (some (.Subscript o i pos')) pos.line X.env=pure false):
  PS X (.Assign [.Subscript o i pos'] value pos) (EZ X.prog X.w X.K td ty tv):=by
 intro pins s σ H D I h;refine wpAny_Assign_Subscript (thn (hv pins s σ H _ I h) fun r s1 hPz=>L2.ep3 hPz fun v H1 I1 rv q1=>thn (ho pins s1 σ H1 _ I1 q1) fun u s2 hPz=>L2.ep3 hPz fun x H2 I2 rx q2=>thn (hi pins s2 σ H2 _ I2 q2) fun iv s3 hPz=>?_) hs;obtain⟨y,H3,I3,ry,d,ob,T,b,c,ex,hc,ey,hb,hl,q3⟩:=hPz;subst ex ey;cases rx;cases ry;obtain⟨h1,h2,h3,h4⟩:=hc;obtain⟨vs,rT,DD⟩:=h2.dict I3 h1 h4;have lt:=wH rT;have sl:(1000:Nat)<=sizeLine:=by decide
 refine wpAny_setItem_heap (hsz:=by lia) (show X.A.in1.units+3<cLine by simp only[Around.in1_units];omega) (hb.is I3) DD fun h' DD' hs'=>?_;obtain⟨ob',es',ep',e1,e2,e3,e4,_,e6⟩:=DD';have ho':ux X.prog X.w ob' (kR T c b v):=⟨e2,by have:=zI T c b v;lia,es',ep',_,e3,e4,Eg rv rT,e6⟩;exact⟨σ,_,uf I3 (by rw[h1];exact True.intro) hs' ⟨ob',e1⟩ (xp e1),q3 ob' ho'⟩
theorem zS(hu:X.A.units+64<cLine)(ho:PE X o td)(he:PE X e ty)(hf:PE X f tx)(m:M2 X o "get" apos e f cpos):PE X (.Call (.Attribute o "get" apos) [e,f] [] cpos) (Dm X.prog X.w X.K td ty tx):=by
 intro pins s σ H Q I h;refine wpAny_Call_method m.base m.few m.line PySem.F.plainAttrs_dict PySem.F.slot_dict_get PySem.F.type_dict_get (thn (ho pins s σ H _ I h) fun u s1 hPz=>?_);obtain⟨x,H1,I1,rx,d,ob,T,ex,hc,q1⟩:=hPz;subst ex;cases rx;obtain⟨h1,h2,h3,h4⟩:=hc;have e0:s1.heap.get? d=some ob:=(I1.hok d _ h1).1;refine⟨⟨ob,e0,h2.ex.1⟩,fun b q=>?_,?_⟩
 ·cases q;exact⟨ob,e0,h2.ex.2.1⟩
 rw[m.trees];refine Calls.callWith_builtin rfl (Calls.evalArgs_plain (Calls.spliced_cons (thn (he pins s1 σ H1 _ I1 q1) fun iv s2 hPz=>L2.ep3 hPz fun y H2 I2 ry q2=>Calls.spliced_cons (thn (hf pins s2 σ H2 _ I2 q2) fun fv s3 ⟨z,H3,I3,rz,ob',T',b,c,hc',ey,hb,q3⟩=>Calls.spliced_nil ?_))));subst ey;cases ry;obtain⟨g1,g2,g3,g4⟩:=hc';obtain⟨vs,rT,DD⟩:=g2.dict I3 g1 g4;refine call_meetsIn PySem.F.slot_dict_get DD.typeIs PySem.F.entry_dict_get (PySem.F.args_dict_get_3 _ _ _) (meetsH_dict_get_default (m8 X.prog X.w) d b g3 fv) ⟨show X.A.in1.units+3<cLine by simp only[Around.in1_units];omega,c,vs,hb.is I3,DD,?_⟩;rcases AR (c:=c) rT with⟨z1,z2⟩|⟨v',p,z1,z2,z3⟩
 ·rw[z1]at q3;rw[z2];exact⟨z,H3,I3.tok _,rz,q3⟩
 ·rw[z1]at q3;rw[z2];exact⟨v',H3,I3.tok _,z3,q3⟩
end
section
variable{P:Program}{w:World}{A:Around}{E:Value->Shared->Prop}{s:Shared}{it d:Addr}{i ep:Nat}{od:Obj}{es:Array DictEntry}
theorem wu{Q:Value->Shared->Prop}(nm:(d==sysModules)=false)(g:s.heap.get? d=some od)(x:od.ExactDict)(gd:od.data=.dict es ep)
  (q:Q (.ref s.heap.objs.size) {s with heap:=s.heap.push {cls:=.type "dict_keyiterator",data:=.fields #[.ref d,.int 0 0,.int es.size 0,.int ep 0]}}):wpAny (model P w) A (pyIter (.ref d)) Q E s:=by
 have ty:s.TypeIs (.ref d) "dict":=⟨od,g,x.1⟩;refine wpAny_pyIter_slot ty F.slot_dict_iter (HD F.slot_dict_iter ty F.entry_dict_iter ?_ (F.args_dict_iter_1 _));unfold Builtin.«dict.__iter__» Builtin.Dict.dictSlotNone;refine Gg (Gg (wpAny_notOrdered_dict ty ?_));refine Gj ?_;refine Gg (show wpAny (model P w) A.in1 (pure d) _ _ _ from Gj ?_);unfold Builtin.Dict.showsAll;rw[Gu (by rw[nm];exact GJ)];refine Gg (Gj (Gg (wpAny_dictEntries g gd (Gg (wpAny_dictEpoch g gd ?_)))));refine Gg (Hn (Gj ⟨_,rfl,"dict_keyiterator",_,⟨_,GO _ rfl,rfl⟩,F.slot_dict_keyiterator_next.lookup,?_⟩));simpa[rawInt]using q
theorem yA{Q:Option Value->Shared->Prop}{en:DictEntry}(hit:s.heap.IsKeyIter it d i es.size ep)(g:s.heap.get? d=some od)(gd:od.data=.dict es ep)(hx:es[i]?=some en)
  (q:∀h',h'.IsKeyIter it d (i+1) es.size ep->Heap.SameBut it s.heap h'->Q (some en.key) {s with heap:=h'}):wpAny (model P w) A (pyNext (.ref it)) Q E s:=by
 obtain⟨oi,gi,ci,di⟩:=id hit;unfold pyNext;refine Gg (wpAny_attempt (HV (name:=Str.ofString "__next__") hit.typeIs F.slot_dict_keyiterator_next (HD F.slot_dict_keyiterator_next hit.typeIs F.entry_dict_keyiterator_next ?_ (F.args_dict_keyiterator_next_1 _))));refine Gg (Gj (Gg (Gg ?_)))
 first|refine Gg (wpAny_typeNameOfWhole_keyiter hit.typeIs (Gj ?_))|refine Gg (wpAny_typeNameOf_keyiter hit.typeIs (Gj ?_))
 refine Gg (wpAny_fieldsOf gi di ?_);have nown:Builtin.Dict_items.ownsTuple "dict_keyiterator"=false:=by decide
 simp only[nown,Hq,if_false];show wpAny _ _ (if(Value.ref d==Value.none)=true then _ else _) _ _ s;rw[Gu (show ¬((Value.ref d==Value.none)=true)from GJ)];refine Gg (Gj (Gg (wpAny_dictEntries g gd ?_)));rw[Gu (by simp)];refine Gg (Gj (Gg (wpAny_dictEpoch g gd ?_)));rw[Gu (by simp)];refine Gj ?_;simp only[show ¬((i:Int)<0)from by omega,if_false,Hg,hx];refine Gg ?_
 first|refine Gg (wpAny_typeNameOfWhole_keyiter hit.typeIs (Gj ?_))|refine Gg (wpAny_typeNameOf_keyiter hit.typeIs (Gj ?_))
 refine Gg (wpAny_isOneOf_keyiter hit.typeIs ?_);show wpAny _ _ (setField (.ref it) 1 (rawInt ((i:Int)+1))>>= _) _ _ s;refine Gg (wpAny_setField gi di (by simp) ?_);have nx:(s.heap.update it (Obj.mapFields (·.setIfInBounds 1 (rawInt ((i:Int)+1))))).IsKeyIter it d (i+1) es.size ep:=
  ⟨_,Ho _ gi (Obj.isFreed_of_fields (Obj.data_mapFields di _)),(Obj.cls_mapFields ..).trans ci,by rw[Obj.data_mapFields di];simp[rawInt]⟩
 refine Gg (Hr (Gg (wpAny_isOneOf_keyiter (s:={s with heap:=s.heap.update it (Obj.mapFields (·.setIfInBounds 1 (rawInt ((i:Int)+1))))}) nx.typeIs ?_)));show wpAny _ _ (pure en.key) _ _ _;exact Gj (Gj ⟨_,rfl,Gj (q _ nx (Ht ..))⟩)
theorem Am{Q:Option Value->Shared->Prop}(hh:A.handled=none)(hit:s.heap.IsKeyIter it d i es.size ep)(g:s.heap.get? d=some od)(gd:od.data=.dict es ep)(hx:es.size<=i)
  (q:∀h',Heap.ExtBut it s.heap h'->Q none {s with heap:=h'}):wpAny (model P w) A (pyNext (.ref it)) Q E s:=by
 obtain⟨oi,gi,ci,di⟩:=id hit;unfold pyNext;refine Gg (wpAny_attempt (HV (name:=Str.ofString "__next__") hit.typeIs F.slot_dict_keyiterator_next (HD F.slot_dict_keyiterator_next hit.typeIs F.entry_dict_keyiterator_next ?_ (F.args_dict_keyiterator_next_1 _))));refine Gg (Gj (Gg (Gg ?_)))
 first|refine Gg (wpAny_typeNameOfWhole_keyiter hit.typeIs (Gj ?_))|refine Gg (wpAny_typeNameOf_keyiter hit.typeIs (Gj ?_))
 refine Gg (wpAny_fieldsOf gi di ?_);have nown:Builtin.Dict_items.ownsTuple "dict_keyiterator"=false:=by decide
 simp only[nown,Hq,if_false];show wpAny _ _ (if(Value.ref d==Value.none)=true then _ else _) _ _ s;rw[Gu (show ¬((Value.ref d==Value.none)=true)from GJ)];refine Gg (Gj (Gg (wpAny_dictEntries g gd ?_)));rw[Gu (by simp)];refine Gg (Gj (Gg (wpAny_dictEpoch g gd ?_)));rw[Gu (by simp)];refine Gj ?_;simp only[show ¬((i:Int)<0)from by omega,if_false,Hg,Array.getElem?_eq_none hx];refine Gg ?_
 first|refine Gg (wpAny_typeNameOfWhole_keyiter hit.typeIs (Gj ?_))|refine Gg (wpAny_typeNameOf_keyiter hit.typeIs (Gj ?_))
 show wpAny _ _ (setField (.ref it) 0 .none>>= _) _ _ s;refine Gg (wpAny_setField gi di (by simp) ?_);show wpAny _ _ (newExc (.type "StopIteration") []>>= _) _ _ _;simp only[newExc,newTuple];refine Gg (Gg (Hn ?_ (by size_fits)));refine Gg (m:=firstArgMember _ _) (wpAny_of_eq (a:=Value.none) (by first|rfl|(simp only[firstArgMember];rfl)) (Hn ?_ (by size_fits)));simp only[raiseNew];refine Gg (wpAny_handled ?_);rw[show A.in1.handled=none from hh];refine Gg (Gj (wpAny_throw ?_));refine Gg (wpAny_isInstance (b:=true) (T:="StopIteration") ⟨_,GO _ rfl,rfl⟩ isSubtype_stop ?_);exact Gj (q _ (((Ht ..).extBut.push _).push _))
end
noncomputable def Itc(d:Addr)(o:Obj)(T:CT):It:=
 ⟨fun i H=>H d=some (gh d o)/\i<T.length,fun i H x H'=>H'=H/\∃t,T[i]?=some t/\x=.ref t.2.1,fun i H=>H d=some (gh d o)/\T.length<=i⟩
theorem zl{P:Program}{w:World}{K:Frag}{tg:Expr}(d it:Addr)(o:Obj)(T:CT){es:Array DictEntry}{ep:Nat}(hd:o.data=.dict es ep)(hT:∃vs,es.toList=vs.map (entryOfKey (m8 P w))/\CTv T vs):
  Turn P w K tg (Itc d o T) [it] it (fun i h=>h.IsKeyIter it d i es.size ep) where
 mem:=by simp
 obj:=fun i h st b hb=>by
  have e:b=it:=by simpa using hb
  subst e;obtain⟨o,e,c,d⟩:=st;exact⟨o,e,fun v z=>by rw[d]at z;cases z⟩
 keep:=fun i h h' st k=>st.at fun o e=>k it (by simp) o e
 item:=by
  intro X hP hw hK hc i pins s σ H E I hf st hg;obtain⟨ha,hi⟩:=hg;obtain⟨vs,e1,e2⟩:=hT;have lt:=wH e2;have g:s.heap.get? d=some o:=(I.hok d _ ha).1;obtain⟨t,ht⟩:∃t,T[i]?=some t:=⟨T[i],by simp[hi]⟩;obtain⟨v,hv,r1,r2,r3⟩:=aQ e2 ht;have he:es[i]?=some (entryOfKey (m8 P w) v):=by rw[<-HU,e1,GX,hv];rfl
  obtain⟨f0,f1,f2,f3,f4,f5⟩:=hf it (by simp);refine yA st g hd he fun h' st' sb=>?_;have I1:Inv X pins σ H {s with heap:=h'}:=I.turned (t':=s.toks) (fun b o hb e=>(sb.2 b hb).trans e) f0 f1 f3 f4 f5;obtain⟨oi,e,c,d'⟩:=id st';exact⟨_,rfl,xA (s:={s with heap:=h'}) e c d' (by decide) ⟨.ref t.2.1,H,I1,by rw[r2];rfl,⟨rfl,t,ht,rfl⟩,st',fun b hb=>(hf b hb).1⟩⟩
 done:=by
  intro X hP hw hK hc i pins s σ H E I hf st hg;obtain⟨ha,hi⟩:=hg;obtain⟨vs,e1,e2⟩:=hT;have lt:=wH e2;have g:s.heap.get? d=some o:=(I.hok d _ ha).1;have le:es.size=vs.length:=by rw[<-Hh,e1,Gh]
  obtain⟨f0,f1,f2,f3,f4,f5⟩:=hf it (by simp);exact Am (I.ok.hd hc) st g hd (by lia) fun h' eb=>⟨rfl,I.turned (t':=s.toks) (fun b o hb e=>eb b o hb e) f0 f1 f3 f4 f5⟩
 self:=fun _ _ _ _ _ st h=>wpAny_pyIter_keyiter st h
section
variable{X:Cx}{tg:Expr}
def F6(P:Program)(w:World)(tl:TE):TI:=fun σ H R=>tl σ H fun x H1=>∃d o T,x=.ref d/\H1 d=some (gh d o)/\ux P w o T/\(d==sysModules)=false/\R (Itc d o T) H1
theorem Dz{l:Expr}{tl:TE}(hl:PE X l tl):PI X tg l (F6 X.prog X.w tl):=by
 intro pins s σ H R I h;refine thn (hl pins s σ H _ I h) fun v s1 hPz=>?_;obtain⟨x,H1,I1,r1,q1⟩:=hPz;obtain⟨d,o,T,rfl,hd,ho,nm,q⟩:=q1;cases r1;obtain⟨es,ep,vs,e1,e2,e3,e4⟩:=ho.es;have g:s1.heap.get? d=some o:=(I1.hok d _ hd).1;refine wu nm g ho.ex e1 ?_;refine⟨s1.heap.objs.size,[s1.heap.objs.size],_,_,H1,rfl,I1.kept (t':=s1.toks) fun b o e=>Gi _ e,zl d _ o T e1 ⟨vs,e2,e3⟩,⟨_,GO _ rfl,rfl,rfl⟩,fun b hb=>?_,q⟩;have e:b=s1.heap.objs.size:=by simpa using hb
 subst e;exact I1.fpOk (Gr _) (I1.hok.fresh (Gr _))
theorem Fs{d:Addr}{o:Obj}{T:CT}{g:TG}{tt:TT}{te:TE}{σ0:St}{Q:Hp->Prop}{D:Addr}{H:Hp}(Pv:Nat->List V->Hp->Prop)(h0:Pv 0 [] H)(hl:∀i acc H,i<=T.length->Pv i acc H->H d=some (gh d o))
  (hs:∀i t acc H2,T[i]?=some t->Pv i acc H2->g (.ref t.2.1) σ0 H2 fun σ2 H4=>tt σ2 H4 fun b H5=>if b=true then te σ2 H5 fun y H6=>H6 D=some (.lst acc)/\acc.length<sizeLine/\Pv (i+1) (acc++[y]) (upd H6 D (.lst (acc++[y])))else Pv (i+1) acc H5)
  (hd:∀acc H2,Pv T.length acc H2->Q H2):
  ∃W:Nat->Nat->List V->Hp->Prop,(∃m,W 0 m [] H)/\∀i m acc H2,W i m acc H2->
   ((Itc d o T).stop i H2/\Q H2)\/((Itc d o T).go i H2/\∃N:List V->Hp->Prop,(∀acc' H',N acc' H'->∃m',m'<m/\W (i+1) m' acc' H')/\∀x H3,(Itc d o T).yld i H2 x H3->g x σ0 H3 fun σ2 H4=>tt σ2 H4 fun b H5=>if b=true then te σ2 H5 fun y H6=>H6 D=some (.lst acc)/\acc.length<sizeLine/\N (acc++[y]) (upd H6 D (.lst (acc++[y])))else N acc H5):=by
 refine⟨fun i m acc H=>m=T.length-i/\i<=T.length/\Pv i acc H,⟨T.length,by simp,G1 _,h0⟩,?_⟩;rintro i m acc H2 ⟨rfl,hi,p⟩;have q:=hl i acc H2 hi p;by_cases hlt:i<T.length
 ·refine .inr ⟨⟨q,hlt⟩,Pv (i+1),fun acc' H' p'=>⟨T.length-(i+1),by lia,rfl,hlt,p'⟩,fun x H3 y=>?_⟩;obtain⟨e,t,ht,rfl⟩:=y;subst e;exact hs i t acc _ ht p
 ·have e:i=T.length:=by lia
  subst e;exact .inl ⟨⟨q,Gr _⟩,hd acc H2 p⟩
end
end L2
namespace PySem
namespace F
theorem wm:typeLookup (.type "list_reverseiterator") "__len__"=pure none:=by rw[typeLookup_type,builtinLookup_eq_fast];kernel_rfl
theorem u4:typeLookup (.type "list_reverseiterator") "__length_hint__"=pure (some (.builtin "list_reverseiterator.__length_hint__")):=by rw[typeLookup_type,builtinLookup_eq_fast];kernel_rfl
theorem Bq:isSubtype (.type "list_reverseiterator") (.type "list_reverseiterator")=pure true:=by rw[isSubtype_type];kernel_rfl
end F
section
variable{prog:Program}{w:World}{A:Around}{E:Value->Shared->Prop}{s:Shared}{r l:Addr}{items:Array Value}
theorem zC{Q:Bool->Shared->Prop}(ty:s.TypeIs (.ref r) "list_reverseiterator")(q:Q false s):wpAny (model prog w) A (Builtin.List.listLengthHint (.ref r)) Q E s:=by
 unfold Builtin.List.listLengthHint;refine Gg (wpAny_specialOf ty F.wm ?_)
 wp_delta
 refine wpAny_ite_split (fun z=>absurd z (by decide+kernel)) (fun _=>?_);refine wpAny_ite_split (fun z=>absurd z (by decide)) (fun _=>?_);refine Gg (wpAny_specialOf ty F.u4 ?_);generalize hid:("list_reverseiterator.__length_hint__":String)=id0
 wp_delta
 rw[show splitId id0=some ("list_reverseiterator","__length_hint__")from by subst hid;decide+kernel];subst hid;refine Gg (wpAny_isInstance (b:=true) (T:="list_reverseiterator") ty F.Bq ?_);refine wpAny_ite_split (fun z=>absurd z (by decide)) (fun _=>?_);refine wpAny_ite_split (fun _=>?_) (fun z=>absurd (by decide+kernel) z);refine wpAny_ite_split (fun z=>absurd z (by decide+kernel)) (fun _=>?_);exact Gj q
theorem BB{Q:Option Value->Shared->Prop}(hh:A.handled=none)(hit:s.heap.IsRevIter r l (-1))
  (q:∀h',(∀b o,s.heap.get? b=some o->h'.get? b=some o)->Q none {s with heap:=h'}):wpAny (model prog w) A (pyNext (.ref r)) Q E s:=by
 obtain⟨ob,g1,g2,g3⟩:=id hit;unfold pyNext;refine Gg (wpAny_attempt (HV (name:=Str.ofString "__next__") hit.typeIs F.slot_lri_next (HD F.slot_lri_next hit.typeIs F.entry_lri_next ?_ (F.args_lri_next_1 _))));unfold Builtin.«list_reverseiterator.__next__»;refine Gg (wpAny_of_eq (a:=(Value.ref r,[])) rfl ?_)
 try dsimp only
 refine Gg (wpAny_field g1 g3 (x:=rawInt (-1)) rfl ?_);show wpAny _ _ (if(-1:Int)<0 then _ else _) _ _ s;rw[Gz (by decide)];refine Gg (wpAny_rule ?_)
 first
 |show wpAny _ _ (newExc (.type "StopIteration") []>>= _) _ _ _
 |(refine Gg ?_;show wpAny _ _ (newExc (.type "StopIteration") []>>= _) _ _ _)
 simp only[newExc,newTuple];refine Gg (Gg (Hn ?_ (by size_fits)));refine Gg (m:=firstArgMember _ _) (wpAny_of_eq (a:=Value.none) (by first|rfl|(simp only[firstArgMember];rfl)) (Hn ?_ (by size_fits)));simp only[raiseNew];refine Gg (wpAny_handled ?_)
 first|rw[show A.in1.handled=none from hh]|rw[hh]
 refine Gg (Gj (wpAny_throw ?_));refine Gg (wpAny_isInstance (b:=true) (T:="StopIteration") ⟨_,GO _ rfl,rfl⟩ isSubtype_stop ?_);exact Gj (q _ fun b o e=>Gi _ (Gi _ e))
theorem zB{R:Result->Shared->Prop}(hh:A.handled=none)(hne:l≠r){S:Addr}(nr:S≠r)(nl:S≠l)(hn:items.size<=sizeLine):
  ∀(m:Nat)(s1:Shared)(acc:Array Value)(c:Nat),m<=items.size->s1.heap.IsRevIter r l ((m:Int)-1)->s1.heap.IsList l items->s1.heap.get? S=some {cls:=.type "list",dict:=none,data:=.seq acc c,slots:= #[]}->
   acc.toList=(items.toList.drop m).reverse->
   (∀h' tk acc' c',(∀b o,b≠r->b≠S->s1.heap.get? b=some o->h'.get? b=some o)->(∃o,h'.get? r=some o)->h'.get? S=some {cls:=.type "list",dict:=none,data:=.seq acc' c',slots:= #[]}->acc'.toList=items.toList.reverse->R (.ok (.ret .none)) {s1 with heap:=h',toks:=tk})->
   codeAny (model prog w) A (.builtin "list.extend.loop" ⟨[.ref S,.ref r,.none],[]⟩) R s1:=by
 intro m
 induction m with
 |zero=>intro s1 acc c _ it il g e q;refine codeAny_builtin F.entry_extend_loop ?_;rw[Around.under_plainId F.plain_extend_loop _];show wpAny _ A.in1 (pyNext (.ref r)>>= _) _ _ s1;refine Gg (BB (A:=A.in1) hh (by simpa using it) fun h' k=>?_);obtain⟨ob,g1,_⟩:=it;exact Gj (q h' _ acc c (fun b o _ _ e=>k b o e) ⟨_,k _ _ g1⟩ (k _ _ g) (by rw[e,List.drop_zero]))
 |succ m ih=>
  intro s1 acc c hm it il g e q;have hx:items[m]?=some (items[m]'(by lia)):=Array.getElem?_eq_getElem (by omega);refine codeAny_builtin F.entry_extend_loop ?_;rw[Around.under_plainId F.plain_extend_loop _];show wpAny _ A.in1 (pyNext (.ref r)>>= _) _ _ s1;have it':s1.heap.IsRevIter r l ((m:Nat):Int):=by have e1:(((m+1:Nat):Int)-1)=((m:Nat):Int):=(by lia);rw[e1]at it;exact it
  refine Gg (wpAny_pyNext_rev_item it' il hx fun h' it2 sb=>?_);have g2:h'.get? S=some {cls:=.type "list",dict:=none,data:=.seq acc c,slots:= #[]}:=(sb.2 S nr).trans g;have la:acc.size=items.size-(m+1):=by have:=congrArg List.length e;simp only[Hh,List.length_reverse,List.length_drop]at this;exact this
  show wpAny _ A.in1 (updateSeq S (·.push (items[m]'(by lia)))>>= _) _ _ _;refine Gg (wpAny_updateSeq g2 rfl (Gj ⟨plainId_quiet F.plain_extend_loop _,?_⟩) (by rw[la];omega) (by show(acc.push _).size<=sizeLine+1;rw[Array.size_push,la];omega));have o2:∀b o,b≠S->h'.get? b=some o->(h'.update S (Obj.mapSeq (·.push (items[m]'(by omega))))).get? b=some o:=fun b o hb e=>(Hf _ _ (HB hb)).trans e;refine ih _ (acc.push (items[m]'(by omega))) _ (by lia) (it2.at fun o e=>o2 r o (HB nr) e) (il.at fun o e=>o2 l o (HB nl) ((sb.2 l hne).trans e)) (Ho _ g2 rfl) ?_ fun h3 tk3 acc3 c3 k3=>q h3 tk3 acc3 c3 fun b o hb hS e=>k3 b o hb hS (o2 b o hS ((sb.2 b hb).trans e));rw[Array.toList_push,e,List.drop_eq_getElem_cons (l:=items.toList) (i:=m) (by simpa using(by omega:m<items.size)),List.reverse_cons];simp
theorem rj{Q:Value->Shared->Prop}(hh:A.handled=none)(hit:s.heap.IsRevIter r l ((items.size:Int)-1))(hl:s.heap.IsList l items)(hne:l≠r)(hn:items.size<=sizeLine)
  (q:∀h' tk acc c',(∀b o,b≠r->s.heap.get? b=some o->h'.get? b=some o)->(∃o,h'.get? r=some o)->h'.get? s.heap.objs.size=some {cls:=.type "list",dict:=none,data:=.seq acc c',slots:= #[]}->
   acc.toList=items.toList.reverse->Q (.ref s.heap.objs.size) {s with heap:=h',toks:=tk}):wpAny (model prog w) A (call (.type "list") [.ref r]) Q E s:=by
 have lr:r<s.heap.objs.size:=by obtain⟨_,e,_⟩:=hit;exact GG e
 have ll:l<s.heap.objs.size:=by obtain⟨_,e,_⟩:=hl;exact GG e
 have nr:s.heap.objs.size≠r:=Nat.ne_of_gt lr;have nl:s.heap.objs.size≠l:=Nat.ne_of_gt ll;refine callType_codes (Q₁:=fun ob s₁=>ob=.ref s.heap.objs.size/\s₁={s with heap:=s.heap.push {cls:=.type "list",data:=.seq #[]}}) F.called_list (F.typeCall_list_1 _) F.entry_list_init (code_list_new _ ⟨rfl,rfl⟩) fun ob s₁ h₁=>?_;obtain⟨rfl,rfl⟩:=h₁;have g0:(s.heap.push {cls:=.type "list",data:=.seq #[]}).get? s.heap.objs.size=some {cls:=.type "list",data:=.seq #[]}:=GO _ rfl;refine⟨⟨_,g0,rfl⟩,F.args_list_init_2 _ _,?_⟩;have it1:(s.heap.push {cls:=.type "list",data:=.seq #[]}).IsRevIter r l ((items.size:Int)-1):=hit.at fun o e=>Gi _ e;have il1:(s.heap.push {cls:=.type "list",data:=.seq #[]}).IsList l items:=hl.push _;show wpAny _ _ (do let old <-Builtin.List.listItems (.ref s.heap.objs.size);Builtin.List.listUpdate (.ref s.heap.objs.size) (fun _=> #[]);letGo old.toList.reverse;Builtin.List.listExtendWith (.ref s.heap.objs.size) (.ref r) .none) _ _ _;unfold Builtin.List.listItems;refine Gg (Gg (wpAny_seqItems g0 rfl (Gj ?_)));show wpAny _ _ (updateSeq s.heap.objs.size (fun _=> #[])>>= fun _=>letGo (#[]:Array Value).toList.reverse>>= fun _=>Builtin.List.listExtendWith (.ref s.heap.objs.size) (.ref r) .none) _ _ _;refine Gg (wpAny_updateSeq g0 rfl ?_);have g1:=Ho (Obj.mapSeq (fun _=>(#[]:Array Value))) g0 rfl;have o1:∀b o,b≠s.heap.objs.size->(s.heap.push {cls:=.type "list",data:=.seq #[]}).get? b=some o->((s.heap.push {cls:=.type "list",data:=.seq #[]}).update s.heap.objs.size (Obj.mapSeq (fun _=>(#[]:Array Value)))).get? b=some o:=
  fun b o hb e=>(Hf _ _ (HB hb)).trans e
 have it2:=it1.at fun o e=>o1 r o (HB nr) e;have il2:=il1.at fun o e=>o1 l o (HB nl) e;have k2:∀b o,b≠s.heap.objs.size->s.heap.get? b=some o->((s.heap.push {cls:=.type "list",data:=.seq #[]}).update s.heap.objs.size (Obj.mapSeq (fun _=>(#[]:Array Value)))).get? b=some o:=fun b o hb e=>o1 b o hb (Gi _ e);obtain⟨c1,g1'⟩:∃c1,((s.heap.push {cls:=.type "list",data:=.seq #[]}).update s.heap.objs.size (Obj.mapSeq (fun _=>(#[]:Array Value)))).get? s.heap.objs.size=some {cls:=.type "list",data:=.seq #[] c1}:=⟨_,g1⟩;generalize ((s.heap.push {cls:=.type "list",data:=.seq #[]}).update s.heap.objs.size (Obj.mapSeq (fun _=>(#[]:Array Value))))=h2 at it2 il2 k2 g1' ⊢;refine Gg (wpAny_letGo ?_);unfold Builtin.List.listExtendWith;refine Gg (wpAny_typeOf (T:="list_reverseiterator") (Heap.IsRevIter.typeIs (s:={s with heap:=h2}) it2) ?_);have n1:Builtin.List.listSameRef (.ref s.heap.objs.size) (.ref r)=false:=by simp[Builtin.List.listSameRef,nr]
 have n2:(Value.type "list_reverseiterator"==Value.type "list")=false:=by decide
 have n3:(Value.type "list_reverseiterator"==Value.type "tuple")=false:=by decide
 simp only[n1,n2,n3,Bool.or_false,Hq,if_false];refine Gg (wpAny_pyIter_revIter it2 ?_);refine Gg (Hr (zC (s:={s with heap:=h2}) (Heap.IsRevIter.typeIs (s:={s with heap:=h2}) it2) ?_));refine wpAny_ite_split (fun z=>absurd z (by decide)) (fun _=>?_);refine Gj ⟨plainId_quiet F.plain_extend_loop _,?_⟩;refine zB (A:=A.in1) hh hne nr nl hn items.size _ #[] c1 (Gr _) it2 il2 g1' (by simp) fun h' tk acc' c' k3 gr hS' e=>⟨rfl,q h' tk acc' c' (fun b o hb e=>?_) gr hS' e⟩;have lb:b<s.heap.objs.size:=GG e;exact k3 b o hb (G5 lb) (k2 b o (G5 lb) e)
end
end PySem
namespace L2
open PySem PySem.Spec PyProof.Rows
noncomputable def Ey(r a:Addr)(n:Nat):HO:=.ext fun h=>h.IsRevIter r a ((n:Int)-1)
noncomputable def qH(r:Addr):HO:=.ext fun h=>∃o,h.get? r=some o
section
variable{X:Cx}
theorem rh:fE X (.type "reversed") (fun xs H Q=>∃a ys,xs=[.ref a]/\SqL X.K H a ys/\∀r,H r=none->Q (.ref r) (upd H r (Ey r a ys.length))):=by intro pins s σ H xs us Q I r h;obtain⟨a,ys,rfl,ha,q⟩:=h;obtain⟨u,rfl,ru⟩:=vals1 r;cases ru;obtain⟨its,rv,pl,hz⟩:=I.list ha;have hl:=rv.length;refine call_reversed_list pl.isList ?_;refine⟨.ref s.heap.objs.size,_,I.laid (t':=s.toks) (o:=Ey s.heap.objs.size a ys.length) (fun b o e=>Gi _ e) (Gr _) ?_,rfl,q _ (I.hok.fresh (Gr _))⟩;have it:(s.heap.push (revObj a ((its.toArray.size:Int)-1))).IsRevIter s.heap.objs.size a ((ys.length:Int)-1):=⟨_,GO _ rfl,rfl,by show Data.fields _=_;rw[Gq,hl]⟩;exact⟨it,let ⟨o,e,_⟩:=it;⟨o,e⟩,fun h1 h2 x k=>x.at k⟩
theorem uo(hc:X.calm=true):fE X (.type "list") (fun xs H Q=>∃r a ys,xs=[.ref r]/\H r=some (Ey r a ys.length)/\SqL X.K H a ys/\∀l,H l=none->Q (.ref l) (upd (upd H r (qH r)) l (.lst ys.reverse))):=by
 intro pins s σ H xs us Q I rr h;obtain⟨r,a,ys,rfl,hr,ha,q⟩:=h;obtain⟨u,rfl,ru⟩:=vals1 rr;cases ru;obtain⟨its,rv,pl,hz⟩:=I.list ha;have hl:=rv.length;have it:s.heap.IsRevIter r a ((ys.length:Int)-1):=(I.hok r _ hr).1;have hI:=pl.isList;have ne:a≠r:=by obtain⟨o1,e1,c1,_⟩:=hI;obtain⟨o2,e2,c2,_⟩:=it;intro z;rw[z,e2]at e1;cases e1;rw[c2]at c1;exact absurd c1 (by decide)
 have it2:s.heap.IsRevIter r a ((its.toArray.size:Int)-1):=by rw[Gq,<-hl];exact it
 refine rj (I.ok.hd hc) it2 hI ne (by rw[Gq];omega) fun h' tk acc c' k gr g e=>?_;have hn:=I.hok.fresh (Gr s.heap.objs.size);have hnr:s.heap.objs.size≠r:=fun z=>by rw[z,hr]at hn;cases hn
 have I1:Inv X pins σ (upd H r (qH r)) {s with heap:=h',toks:=tk}:=I.write (x:=r) (e:=r) (by rw[hr];exact True.intro) (.inl rfl) (fun b o hb e=>k b o hb e) gr ⟨gr,gr,fun h1 h2 ⟨o,e⟩ kk=>⟨o,kk o e⟩⟩;have fD:lS X pins (upd H r (qH r)) s.heap.objs.size:=I.fpOk (Gr _) (by rw[av hnr];exact hn);have I2:=I1.track (t':=tk) (ys:=ys.reverse) (its:=acc.toList) (n:=c') fD (fun b o _ e=>e) (by rw[e];simpa using rv.reverse) (by rw[List.length_reverse];exact hz) (by simpa using g);exact⟨.ref s.heap.objs.size,_,I2,rfl,q _ hn⟩
end
end L2
namespace L2
open PySem PySem.Spec PyProof.Rows
open LM (cb cM f9)
instance memCol(c:Col)(D:List Col):Decidable (c∈D):=decidable_of_iff (D.any (fun x=>decide (x=c))=true) (by
 rw[Ih]
 constructor
 ·rintro⟨x,hx,e⟩;rw[<-GU e];exact hx
 ·intro h;exact⟨c,h,GN rfl⟩)
noncomputable abbrev cw:=List (Nat×Col)
structure bq(g:Nat->Option Col)(R:cw):Prop where
 nd:(R.map (·.2)).Nodup
 ok:∀p∈R,p.1<2^64/\p.1≠0/\∀i,i<64->(p.1.testBit i=true<->g i=some p.2)
 all:∀i c,i<64->g i=some c->c∈R.map (·.2)
 so:R.Pairwise fun p q=>cb p.1<cb q.1
theorem xR{a b:Nat}(ha:a<2^64)(hb:b<2^64)(h:∀i,i<64->(a.testBit i=true<->b.testBit i=true)):a=b:=by
 refine Nat.eq_of_testBit_eq fun i=>?_;by_cases hi:i<64
 ·have:=h i hi;cases e1:a.testBit i<;>cases e2:b.testBit i<;>simp_all
 ·have z:∀{c:Nat},c<2^64->c.testBit i=false:=fun {c} hc=>Nat.testBit_lt_two_pow (Gx hc (Hb (by decide) (by lia)));rw[z ha,z hb]
theorem bq.sub{g:Nat->Option Col}{R S:cw}(h:bq g R)(k:bq g S){p:Nat×Col}(hp:p∈R):p∈S:=by
 obtain⟨p1,p0,pb⟩:=h.ok p hp;obtain⟨b1,_⟩:=cM p1 p0;have lt:cb p.1<64:=f9 p1 (by decide) p0;have hc:=k.all _ _ lt ((pb _ lt).mp b1);obtain⟨q,hq,e⟩:=Gm.mp hc;obtain⟨q1,q0,qb⟩:=k.ok q hq;have em:p.1=q.1:=xR p1 q1 fun i hi=>by rw[pb i hi,qb i hi,e]
 have:p=q:=Prod.ext em e.symm;rw[this];exact hq
theorem iV{R:cw}(h:(R.map (·.2)).Nodup):R.Nodup:=by
 induction R with
 |nil=>exact List.nodup_nil
 |cons p R ih=>rw[GC,Hv]at h;rw[Hv];exact⟨fun z=>h.1 (HM z),ih h.2⟩
theorem bq.uniq{g:Nat->Option Col}{R S:cw}(h:bq g R)(k:bq g S):R=S:=by have pm:R.Perm S:=(List.perm_ext_iff_of_nodup (iV h.nd) (iV k.nd)).mpr fun p=>⟨h.sub k,k.sub h⟩;exact List.Perm.eq_of_pairwise (fun a b _ _ x y=>by lia) h.so k.so pm
structure xW(g:Nat->Option Col)(L:cw):Prop where
 lt:∀p∈L,p.1<2^64
 on:∀p∈L,∀i,i<64->p.1.testBit i=true->g i=some p.2
 has:∀i c,i<64->g i=some c->∃p∈L,p.2=c/\p.1.testBit i=true
theorem bq.grd{g:Nat->Option Col}{R:cw}(h:bq g R):xW g R:=by refine⟨fun p hp=>(h.ok p hp).1,fun p hp i hi b=>((h.ok p hp).2.2 i hi).mp b,fun i c hi e=>?_⟩;obtain⟨p,hp,ec⟩:=Gm.mp (h.all i c hi e);exact⟨p,hp,ec,((h.ok p hp).2.2 i hi).mpr (by rw[e,ec])⟩
noncomputable abbrev Grp:=List (Col×Nat)
noncomputable def gAt(D:Grp)(c:Col):Nat:=((D.find? fun t=>decide (t.1=c)).map (·.2)).getD 0
noncomputable def ua(D:Grp)(c:Col)(m:Nat):Grp:=if(D.any fun t=>decide (t.1=c))=true then D.map (fun t=>if t.1=c then(t.1,m)else t)else D++[(c,m)]
noncomputable def grp(L:cw):Grp:=L.foldl (fun D p=>if p.1=0 then D else ua D p.2 (gAt D p.2|||p.1)) []
theorem vf{L:cw}{i:Nat}{p:Nat×Col}(h:L[i]?=some p):grp (L.take (i+1))=if p.1=0 then grp (L.take i)else ua (grp (L.take i)) p.2 (gAt (grp (L.take i)) p.2|||p.1):=by unfold grp;rw[GF,h,G3,List.foldl_append];rfl
theorem xB{D:Grp}{c:Col}(h:c∉D.map (·.1)):gAt D c=0:=by unfold gAt;rw[Ie.mpr fun t ht z=>h (Gm.mpr ⟨t,ht,GU z⟩)];rfl
theorem wF{D:Grp}(nd:(D.map (·.1)).Nodup){t:Col×Nat}(h:t∈D):gAt D t.1=t.2:=by
 induction D with
 |nil=>cases h
 |cons u D ih=>
  rw[GC,Hv]at nd;rcases GH.mp h with e|h
  ·subst e;simp[gAt,G9]
  ·have ne:¬u.1=t.1:=fun z=>nd.1 (by rw[z];exact HM h);have:=ih nd.2 h;simpa[gAt,G9,ne]using this
theorem D8{D:Grp}{c:Col}:(D.any fun t=>decide (t.1=c))=true<->c∈D.map (·.1):=by
 rw[Ih,Gm];constructor
 ·rintro⟨p,hp,h⟩;exact⟨p,hp,GU h⟩
 ·rintro⟨p,hp,h⟩;exact⟨p,hp,GN h⟩
theorem lL(D:Grp)(c:Col)(m:Nat):(ua D c m).map (·.1)=if c∈D.map (·.1)then D.map (·.1)else D.map (·.1)++[c]:=by
 unfold ua;by_cases h:c∈D.map (·.1)
 ·rw[Gz (D8.mpr h),Gz h,HR];refine List.map_congr_left fun t _=>?_;show(if t.1=c then(t.1,m)else t).1=t.1;split<;>rfl
 ·rw[Gu (fun z=>h (D8.mp z)),Gu h,GK];rfl
theorem Ax{D:Grp}{c:Col}{m:Nat}{t:Col×Nat}(h:t∈ua D c m):t=(c,m)\/(t∈D/\t.1≠c):=by
 unfold ua at h;split at h
 ·obtain⟨u,hu,rfl⟩:=Gm.mp h;by_cases e:u.1=c
  ·rw[Gz e,e];exact .inl rfl
  ·rw[Gu e];exact .inr ⟨hu,e⟩
 ·rename_i z;rcases Gv.mp h with a|a
  ·exact .inr ⟨a,fun e=>z (D8.mpr (by rw[<-e];exact HM a))⟩
  ·exact .inl (Gk.mp a)
structure oK(L:cw)(D:Grp):Prop where
 nd:(D.map (·.1)).Nodup
 ok:∀t∈D,t.2<2^64/\t.2≠0/\∀i,t.2.testBit i=true<->∃p∈L,p.2=t.1/\p.1.testBit i=true
 all:∀p∈L,p.1≠0->p.2∈D.map (·.1)
 sub:∀c∈D.map (·.1),c∈L.map (·.2)
theorem oK.nil:oK [] []:=⟨List.nodup_nil,fun _ h=>(nomatch h),fun _ h=>(nomatch h),fun _ h=>(nomatch h)⟩
theorem oK.step{L:cw}{D:Grp}(h:oK L D){p:Nat×Col}(hp:p.1<2^64):oK (L++[p]) (if p.1=0 then D else ua D p.2 (gAt D p.2|||p.1)):=by
 by_cases z:p.1=0
 ·rw[Gz z];refine⟨h.nd,fun t ht=>?_,fun q hq q0=>?_,fun c hc=>?_⟩
  ·obtain⟨a,b,c⟩:=h.ok t ht;refine⟨a,b,fun i=>?_⟩;rw[c i];constructor
   ·rintro⟨q,hq,e⟩;exact⟨q,GI _ hq,e⟩
   ·rintro⟨q,hq,e1,e2⟩;rcases Gv.mp hq with w|w
    ·exact⟨q,w,e1,e2⟩
    ·rw[Gk.mp w,z]at e2;simp at e2
  ·rcases Gv.mp hq with w|w
   ·exact h.all q w q0
   ·rw[Gk.mp w]at q0;exact absurd z q0
  ·rw[GK];exact GI _ (h.sub c hc)
 ·rw[Gu z];have old:∀i,(gAt D p.2).testBit i=true<->∃q∈L,q.2=p.2/\q.1.testBit i=true:=by
   intro i;by_cases hc:p.2∈D.map (·.1)
   ·obtain⟨t,ht,e⟩:=Gm.mp hc;have:=wF h.nd ht;rw[<-e,this];exact(h.ok t ht).2.2 i
   ·rw[xB hc];simp only[Nat.zero_testBit,Hq,false_iff];rintro⟨q,hq,e1,e2⟩;apply hc;rw[<-e1];refine h.all q hq fun w=>?_;rw[w]at e2;simp at e2
  have lt:gAt D p.2<2^64:=by
   by_cases hc:p.2∈D.map (·.1)
   ·obtain⟨t,ht,e⟩:=Gm.mp hc;rw[<-e,wF h.nd ht];exact(h.ok t ht).1
   ·rw[xB hc];decide
  refine⟨?_,fun t ht=>?_,fun q hq q0=>?_,fun c hc=>?_⟩
  ·rw[lL];split
   ·exact h.nd
   ·rename_i w;rw[List.nodup_append];exact⟨h.nd,by simp,fun a ha b hb e=>w (by rw[Gk]at hb;rw[<-hb,<-e];exact ha)⟩
  ·rcases Ax ht with e|⟨hD,ne⟩
   ·subst e;refine⟨Nat.or_lt_two_pow lt hp,fun w=>z (by have:=Nat.right_le_or (n:=gAt D p.2) (m:=p.1);lia),fun i=>?_⟩;show(gAt D p.2|||p.1).testBit i=true<->_;rw[Nat.testBit_or,Bool.or_eq_true,old i];constructor
    ·rintro(⟨q,hq,e⟩|e)
     ·exact⟨q,GI _ hq,e⟩
     ·exact⟨p,by simp,rfl,e⟩
    ·rintro⟨q,hq,e1,e2⟩;rcases Gv.mp hq with w|w
     ·exact .inl ⟨q,w,e1,e2⟩
     ·rw[Gk.mp w]at e2;exact .inr e2
   ·obtain⟨a,b,c⟩:=h.ok t hD;refine⟨a,b,fun i=>?_⟩;rw[c i];constructor
    ·rintro⟨q,hq,e⟩;exact⟨q,GI _ hq,e⟩
    ·rintro⟨q,hq,e1,e2⟩;rcases Gv.mp hq with w|w
     ·exact⟨q,w,e1,e2⟩
     ·rw[Gk.mp w]at e1;exact absurd e1.symm ne
  ·rw[lL];have key:q.2∈D.map (·.1)\/q.2=p.2:=by
    rcases Gv.mp hq with w|w
    ·exact .inl (h.all q w q0)
    ·rw[Gk.mp w];exact .inr rfl
   split
   ·rename_i w;rcases key with k|k
    ·exact k
    ·rw[k];exact w
   ·rcases key with k|k
    ·exact GI _ k
    ·rw[k];simp
  ·rw[lL]at hc;rw[GK];split at hc
   ·exact GI _ (h.sub c hc)
   ·rcases Gv.mp hc with w|w
    ·exact GI _ (h.sub c w)
    ·rw[Gk.mp w];simp
theorem wB{L:cw}(h:∀p∈L,p.1<2^64):∀i,oK (L.take i) (grp (L.take i))
 | 0=>oK.nil
 |i+1=>by
  have ih:=wB h i;cases e:L[i]? with
  |none=>have hl:L.length<=i:=List.getElem?_eq_none_iff.mp e;rw[List.take_of_length_le (by lia)];rw[List.take_of_length_le hl]at ih;exact ih
  |some p=>rw[vf e,GF,e,G3];exact ih.step (h p (Gp e))
theorem wA{g:Nat->Option Col}{L:cw}{D:Grp}(hg:xW g L)(hD:oK L D){R:cw}(pm:R.Perm (D.map fun t=>(t.2,t.1)))(so:R.Pairwise fun p q=>cb p.1<=cb q.1):bq g R:=by
 have mem:∀p,p∈R<->(p.2,p.1)∈D:=fun p=>by
  rw[pm.mem_iff,Gm];constructor
  ·rintro⟨t,ht,rfl⟩;exact ht
  ·intro h;exact⟨_,h,rfl⟩
 have nd:(R.map (·.2)).Nodup:=by
  have p2:(R.map (·.2)).Perm (D.map (·.1)):=by have:=pm.map (·.2);rwa[HR]at this
  exact p2.nodup_iff.mpr hD.nd
 have ok:∀p∈R,p.1<2^64/\p.1≠0/\∀i,i<64->(p.1.testBit i=true<->g i=some p.2):=by
  intro p hp;obtain⟨a,b,c⟩:=hD.ok _ ((mem p).mp hp);refine⟨a,b,fun i hi=>?_⟩;rw[c i];constructor
  ·rintro⟨q,hq,e1,e2⟩;rw[<-show q.2=p.2 from e1];exact hg.on q hq i hi e2
  ·intro e;obtain⟨q,hq,e1,e2⟩:=hg.has i _ hi e;exact⟨q,hq,e1,e2⟩
 refine⟨nd,ok,fun i c hi e=>?_,?_⟩
 ·obtain⟨q,hq,e1,e2⟩:=hg.has i c hi e;have hc:=hD.all q hq (fun w=>by rw[w]at e2;simp at e2);obtain⟨t,ht,e3⟩:=Gm.mp hc;exact Gm.mpr ⟨(t.2,t.1),(mem _).mpr ht,e3.trans e1⟩
 ·have nR:=iV nd;have both:=List.pairwise_and_iff.mpr ⟨so,nR⟩;refine List.Pairwise.imp_of_mem (fun {p q} hp hq ⟨le,ne⟩=>?_) both;obtain⟨p1,p0,pb⟩:=ok p hp;obtain⟨q1,q0,qb⟩:=ok q hq;have b1:=(cM p1 p0).1;have b2:=(cM q1 q0).1;have l1:cb p.1<64:=f9 p1 (by decide) p0;rcases Nat.lt_or_eq_of_le le with w|w
  ·exact w
  ·exfalso;have e1:=(pb _ l1).mp b1;rw[<-w]at b2;have e2:=(qb _ l1).mp b2;rw[e1]at e2;have ec:p.2=q.2:=G2 e2;apply ne;refine Prod.ext (xR p1 q1 fun i hi=>by rw[pb i hi,qb i hi,ec]) ec
def cE(K:Frag)(H:Hp)(v:V)(p:Nat×Col):Prop:=∃r b,v=.ref r/\SqT K H r [.int (p.1:Nat),.ref b]/\bX K H b p.2
theorem cE.tk{K:Frag}{H H':Hp}{v:V}{p:Nat×Col}(t:TK H H')(h:cE K H v p):cE K H' v p:=by obtain⟨r,b,e,h1,h2⟩:=h;exact⟨r,b,e,t.sq h1,h2.tk t⟩
def StrT(K:Frag)(H:Hp)(a:Addr)(R:cw):Prop:=∃vs,SqT K H a vs/\Paired (cE K H) vs R
theorem StrT.tk{K:Frag}{H H':Hp}{a:Addr}{R:cw}(t:TK H H')(h:StrT K H a R):StrT K H' a R:=by obtain⟨vs,h1,h2⟩:=h;exact⟨vs,t.sq h1,Paired.imp (fun _ _ z=>z.tk t) h2⟩
def TGr(T:CT)(D:Grp):Prop:=Paired (fun(t:Col×Addr×V) (d:Col×Nat)=>t.1=d.1/\t.2.2=.int (d.2:Nat)) T D
theorem zp{c:Col}{T:CT}{D:Grp}(hI:TGr T D):(atT T c).getD (.int 0)=.int (gAt D c:Nat):=by
 induction hI with
 |nil=>exact rfl
 | @cons t d _ _ a b ih=>
  have ih:=ih;by_cases h:t.1=c
  ·have h':d.1=c:=a.1.symm.trans h;simp[atT,gAt,G9,h,h',a.2]
  ·have h':¬d.1=c:=fun z=>h (a.1.trans z);simpa[atT,gAt,G9,h,h']using ih
theorem Bo{c:Col}{T:CT}{D:Grp}(hI:TGr T D):(T.any fun t=>decide (t.1=c))=D.any fun t=>decide (t.1=c):=by
 induction hI with
 |nil=>exact rfl
 | @cons t d _ _ a b ih=>exact by rw[List.any_cons,List.any_cons,ih,a.1]
theorem Bm{c:Col}{m:Nat}{T:CT}{D:Grp}(hI:TGr T D):TGr (T.map fun t=>if t.1=c then(t.1,t.2.1,.int (m:Nat))else t) (D.map fun t=>if t.1=c then(t.1,m)else t):=by
 induction hI with
 |nil=>exact .nil
 | @cons t d _ _ a b ih=>
  rw[GC,GC];refine .cons ?_ (ih);by_cases h:t.1=c
  ·rw[Gz h,Gz (a.1.symm.trans h)];exact⟨a.1,rfl⟩
  ·rw[Gu h,Gu (fun z=>h (a.1.trans z))];exact a
theorem Bl{c:Col}{b:Addr}{m:Nat}{T:CT}{D:Grp}(h:TGr T D):TGr (kR T c b (.int (m:Nat))) (ua D c m):=by
 unfold kR ua;rw[Bo h];split
 ·exact Bm h
 ·exact Paired.app h (.cons ⟨rfl,rfl⟩ .nil)
theorem yi{T:CT}{c:Col}{b:Addr}{v:V}{P:Col×Addr×V->Prop}(hT:∀t∈T,P t)(hn:P (c,b,v))(hs:∀t,P t->∀u,P (t.1,t.2.1,u)):∀t∈kR T c b v,P t:=by
 intro t ht;unfold kR at ht;split at ht
 ·obtain⟨u,hu,rfl⟩:=Gm.mp ht;split
  ·exact hs u (hT u hu) v
  ·exact hT u hu
 ·rcases Gv.mp ht with a|a
  ·exact hT t a
  ·rw[Gk.mp a];exact hn
theorem zo{T:CT}{D:Grp}(h:TGr T D)(nd:(D.map (·.1)).Nodup){i:Nat}{t:Col×Addr×V}(ht:T[i]?=some t):∃d,D[i]?=some d/\t.1=d.1/\atT T t.1=some (.int (d.2:Nat)):=by
 obtain⟨d,hd,e1,e2⟩:=aQ h ht;refine⟨d,hd,e1,?_⟩;have a:=zp (c:=t.1) h;have g:=wF nd (Gp hd);rw[<-e1]at g;rw[g]at a;cases e:atT T t.1 with
 |some v=>rw[e]at a;exact congrArg some a
 |none=>
  exfalso;have m:t∈T:=Gp ht;have z:T.find? (fun u=>decide (u.1=t.1))=none:=by
   unfold atT at e;cases w:T.find? fun u=>decide (u.1=t.1)with
   |none=>rfl
   |some u=>rw[w]at e;cases e
  have:=Ie.mp z t m;simp at this
theorem vJ{K:Frag}{H:Hp}{xs ys:List V}{L:cw}(pr:Paired (cE K H) xs L)(h:A0 (L.map fun p=>((cb p.1:Nat):Int)) xs ys):∃R:cw,Paired (cE K H) ys R/\R.Perm L/\R.Pairwise fun p q=>cb p.1<=cb q.1:=by
 obtain⟨ps,hp,rfl,ho⟩:=h;have z:Paired (fun(p:Nat×Col) (q:Int×V)=>q.1=((cb p.1:Nat):Int)/\cE K H q.2 p) L ((L.map fun p=>((cb p.1:Nat):Int)).zip xs):=by
  clear hp ho
  induction pr with
  |nil=>exact .nil
  |cons a _ ih=>exact .cons ⟨rfl,a⟩ ih
 obtain⟨R,h1,h2⟩:=jG hp.symm z;refine⟨R,?_,h1.symm,?_⟩
 ·clear hp ho h1 z
  induction h2 with
  |nil=>exact .nil
  |cons a _ ih=>exact .cons a.2 ih
 ·clear hp h1 z
  induction h2 with
  |nil=>exact .nil
  | @cons p q l2 l1 a r ih=>
   rw[GC,List.pairwise_cons]at ho;rw[List.pairwise_cons];refine⟨fun p' hp'=>?_,ih ho.2⟩;have key:∀{l2:cw}{l1:List (Int×V)},Paired (fun(p:Nat×Col) (q:Int×V)=>q.1=((cb p.1:Nat):Int)/\cE K H q.2 p) l2 l1->∀p'∈l2,∃q'∈l1,q'.1=((cb p'.1:Nat):Int):=by
    intro l2 l1 w
    induction w with
    |nil=>intro p' h;cases h
    |cons x _ ih2=>
     intro p' h;rcases GH.mp h with e|e
     ·subst e;exact⟨_,Gy ..,x.1⟩
     ·obtain⟨q',h1,h2⟩:=ih2 p' e;exact⟨q',Gs _ h1,h2⟩
   obtain⟨q',hq',e⟩:=key r p' hp';have:=ho.1 q'.1 (HM hq');rw[a.1,e]at this
   lia
end L2
namespace L2
open PySem PySem.Spec PyProof.Rows
section
variable{X:Cx}{o i e f value:Expr}{td ty tv tx:TE}{pos pos' apos cpos:Pos}{P:Program}{w:World}{K:Frag}
theorem zR(h1:X.prog=P)(h2:X.w=w)(h3:X.K=K)(hu:X.A.units+64<cLine)(ho:PE X o td)(hi:PE X i ty)(hs:CG i):PE X (.Subscript o i pos) (CN P w K td ty):=by subst h1 h2 h3;exact tG hu ho hi hs
end
noncomputable def uB(R:cw):PyData:=.tuple (R.map fun p=>.tuple [.int (p.1:Nat),lO p.2])
theorem uF{K:Frag}{H:Hp}:∀(r:List Key),ff K H (r.map gX) (r.map kV)
 | []=>.nil
 |k::r=>by
  refine .cons ?_ (uF r);cases k with
  |inl i=>exact .int i
  |inr x=>exact .str x
theorem bX.isD{K:Frag}{H:Hp}{b:Addr}{c:Col}(h:bX K H b c):IsD K H (lO c) (.ref b):=by
 obtain⟨l,xs,h1,h2⟩:=h;refine .tup h1 ?_;clear h1 l
 induction h2 with
 |nil=>exact .nil
 |cons a _ ih=>obtain⟨x,rfl,hx⟩:=a;exact .cons (.tup hx (uF _)) ih
theorem x6{K:Frag}{H:Hp}{vs:List V}{R:cw}(hI:Paired (cE K H) vs R):ff K H (R.map fun p=>.tuple [.int (p.1:Nat),lO p.2]) vs:=by
 induction hI with
 |nil=>exact .nil
 |cons a b ih=>obtain⟨r,x,rfl,h1,h2⟩:=a;exact .cons (.tup h1 (.cons (.int _) (.cons h2.isD .nil))) (ih)
theorem StrT.isD{K:Frag}{H:Hp}{a:Addr}{R:cw}(h:StrT K H a R):IsD K H (uB R) (.ref a):=by obtain⟨vs,h1,h2⟩:=h;exact .tup h1 (x6 h2)
def Fw(R:cw):Prop:=∀p∈R,∀r∈p.2,∀k∈r,u9 k=true
theorem StrT.lay{K:Frag}{H:Hp}{a:Addr}{R:cw}(h:StrT K H a R):Fw R:=by
 obtain⟨vs,h1,h2⟩:=h;clear h1
 induction h2 with
 |nil=>intro p hp;cases hp
 |cons a _ ih=>
  intro p hp;rcases GH.mp hp with e|e
  ·subst e;obtain⟨_,_,_,_,h⟩:=a;exact h.1
  ·exact ih p e
theorem u6:∀{R:cw},Fw R->PyData.canLayAll0 (R.map fun p=>.tuple [.int (p.1:Nat),lO p.2])=true
 | [],_=>rfl
 |p::R,h=>by have h1:=pj p.2 (h p (Gy ..));have h2:=u6 (R:=R) fun q hq=>h q (Gs _ hq);show((true&&(PyData.canLayAll0 (p.2.map oQ)&&true))&&PyData.canLayAll0 (R.map fun p=>.tuple [.int (p.1:Nat),lO p.2]))=true;rw[h1,h2];rfl
theorem AJ(R:cw):(uB R).depth<=5:=by
 have:∀(R:cw),PyData.depthAll (R.map fun p=>.tuple [.int (p.1:Nat),lO p.2])<=4:=by
  intro R
  induction R with
  |nil=>show(0:Nat)<=4;decide
  |cons p R ih=>
   have h:=xJ p.2;have h2:(PyData.tuple [.int (p.1:Nat),lO p.2]).depth<=4:=by
    show max 0 (max (lO p.2).depth 0)+1<=4
    lia
   show max _ _<=4;exact Nat.max_le.mpr ⟨h2,ih⟩
 have h:=this R;show PyData.depthAll _+1<=5
 lia
def bM(K:Frag)(H:Hp)(v:V)(r:List Key):Prop:=(∀k∈r,u9 k=true)/\∃a,v=.ref a/\SqT K H a (r.map kV)
theorem bM.tk{K:Frag}{H H':Hp}{v:V}{r:List Key}(t:TK H H')(h:bM K H v r):bM K H' v r:=by obtain⟨l,a,e,z⟩:=h;exact⟨l,a,e,t.sq z⟩
theorem bX.of{K:Frag}{H:Hp}{b:Addr}{xs:List V}{c:Col}(h:SqT K H b xs)(p:Paired (bM K H) xs c):bX K H b c:=by
 refine⟨?_,xs,h,Paired.imp (fun _ _ z=>z.2) p⟩;clear h
 induction p with
 |nil=>intro r hr;cases hr
 |cons a _ ih=>
  intro r hr;rcases GH.mp hr with e|e
  ·subst e;exact a.1
  ·exact ih r e
theorem Eu{α:Type}{xs:List α}{i:Int}(h0:0<=i)(h1:i<xs.length):∃x,x∈xs/\atI xs i=some x:=by
 obtain⟨n,rfl⟩:∃n:Nat,i=n:=⟨i.toNat,by lia⟩;have hn:n<xs.length:=by lia
 exact⟨xs[n],Ig hn,au (by simp[hn])⟩
end L2
namespace L2
open PySem PySem.Spec PyProof.Rows
open LM (cb cM f9 jW)
noncomputable def msk(g:Nat->Option Col):Nat->Col->Nat
 | 0,_=>0
 |i+1,c=>if g i=some c then msk g i c+2^i else msk g i c
noncomputable def bz(g:Nat->Option Col):Nat->List Col
 | 0=>[]
 |i+1=>match g i with
  |none=>bz g i
  |some c=>if c∈bz g i then bz g i else bz g i++[c]
theorem nI(g:Nat->Option Col)(c:Col):∀i,msk g i c<2^i
 | 0=>by show(0:Nat)<1;decide
 |i+1=>by have:=nI g c i;rw[Nat.pow_succ];show(if g i=some c then msk g i c+2^i else msk g i c)<_;split<;>lia
theorem fM(g:Nat->Option Col)(c:Col)(t:Nat):∀i,(msk g i c).testBit t=true<->t<i/\g t=some c
 | 0=>by show(0:Nat).testBit t=true<->_;simp
 |i+1=>by
  have ih:=fM g c t i;have lt:=nI g c i;show(if g i=some c then msk g i c+2^i else msk g i c).testBit t=true<->_;split
  ·rename_i h;rw[Nat.add_comm];rcases Nat.lt_trichotomy t i with z|z|z
   ·rw[Nat.testBit_two_pow_add_gt z,ih];exact⟨fun w=>⟨by lia,w.2⟩,fun w=>⟨z,w.2⟩⟩
   ·subst z;rw[Nat.testBit_two_pow_add_eq,Nat.testBit_lt_two_pow lt];exact⟨fun _=>⟨by lia,h⟩,fun _=>rfl⟩
   ·rw[Nat.testBit_lt_two_pow (show 2^i+msk g i c<2^t from Gx (by rw[Nat.pow_succ];lia) (Hb (show 2>0 by decide) (show i+1<=t by lia)))];exact⟨fun w=>absurd w (by decide),fun w=>by lia⟩
  ·rename_i h;rw[ih];constructor
   ·rintro⟨a,b⟩;exact⟨by omega,b⟩
   ·rintro⟨a,b⟩;refine⟨G8 fun z=>h ?_,b⟩;have:t=i:=(by lia);rw[<-this];exact b
theorem gF(g:Nat->Option Col)(c:Col):∀i,c∈bz g i<->∃t,t<i/\g t=some c
 | 0=>by show c∈[]<->_;simp
 |i+1=>by
  have ih:=gF g c i;have ext:(∃t,t<i+1/\g t=some c)<->c∈bz g i\/g i=some c:=by
   rw[ih];constructor
   ·rintro⟨t,a,b⟩;rcases Nat.lt_or_ge t i with z|z
    ·exact .inl ⟨t,z,b⟩
    ·have:t=i:=(by lia);rw[this]at b;exact .inr b
   ·rintro(⟨t,a,b⟩|b)
    ·exact⟨t,by lia,b⟩
    ·exact⟨i,by omega,b⟩
  rw[ext];cases e:g i with
  |none=>have:bz g (i+1)=bz g i:=(by show(match g i with|none=>_|some c=>_)=_;rw[e]);rw[this];simp
  |some c'=>
   have:bz g (i+1)=if c'∈bz g i then bz g i else bz g i++[c']:=by show(match g i with|none=>_|some c=>_)=_;rw[e]
   rw[this];split
   ·rename_i h;constructor
    ·exact .inl
    ·rintro(z|z)
     ·exact z
     ·cases z;exact h
   ·rw[Gv,Gk];constructor
    ·rintro(z|z)
     ·exact .inl z
     ·exact .inr (by rw[z])
    ·rintro(z|z)
     ·exact .inl z
     ·cases z;exact .inr rfl
theorem iY{g:Nat->Option Col}{i:Nat}(e:g i=none):bz g (i+1)=bz g i:=by show(match g i with|none=>_|some c=>_)=_;rw[e]
theorem mZ{g:Nat->Option Col}{i:Nat}{c:Col}(e:g i=some c)(h:c∈bz g i):bz g (i+1)=bz g i:=by show(match g i with|none=>_|some c=>_)=_;rw[e];exact Gz h
theorem j6{g:Nat->Option Col}{i:Nat}{c:Col}(e:g i=some c)(h:¬c∈bz g i):bz g (i+1)=bz g i++[c]:=by show(match g i with|none=>_|some c=>_)=_;rw[e];exact Gu h
theorem mY(g:Nat->Option Col):∀i,(bz g i).Nodup
 | 0=>List.nodup_nil
 |i+1=>by
  have ih:=mY g i;cases e:g i with
  |none=>rw[iY e];exact ih
  |some c=>
   by_cases h:c∈bz g i
   ·rw[mZ e h];exact ih
   ·rw[j6 e h,List.nodup_append];exact⟨ih,by simp,fun a ha b hb z=>h (by rw[Gk]at hb;rw[<-hb,<-z];exact ha)⟩
theorem tT{g:Nat->Option Col}{i:Nat}{c:Col}(h:c∈bz g i):msk g i c≠0:=fun z=>by obtain⟨t,a,b⟩:=(gF g c i).mp h;have:=(fM g c t i).mpr ⟨a,b⟩;rw[z]at this;simp at this
theorem tW{g:Nat->Option Col}{i:Nat}{c:Col}(hi:i<64)(h:c∈bz g i):cb (msk g (i+1) c)=cb (msk g i c):=by
 have lt:msk g i c<2^64:=Gx (nI g c i) (Hb (by decide) (by lia));obtain⟨b1,b2,_⟩:=cM lt (tT h);have l1:=f9 (nI g c i) (by omega) (tT h);refine jW (by lia) ((fM g c _ (i+1)).mpr ⟨by lia,((fM g c _ i).mp b1).2⟩) fun j hj=>?_;cases e:(msk g (i+1) c).testBit j with
 |false=>rfl
 |true=>have:=(fM g c j i).mpr ⟨by lia,((fM g c j (i+1)).mp e).2⟩;rw[b2 j hj]at this;cases this
theorem B7{g:Nat->Option Col}{i:Nat}{c:Col}(hi:i<64)(e:g i=some c)(h:¬c∈bz g i):cb (msk g (i+1) c)=i:=by
 refine jW hi ((fM g c _ (i+1)).mpr ⟨by omega,e⟩) fun j hj=>?_;cases w:(msk g (i+1) c).testBit j with
 |false=>rfl
 |true=>exact absurd ((gF g c i).mpr ⟨j,hj,((fM g c j (i+1)).mp w).2⟩) h
theorem vv(g:Nat->Option Col):∀i,i<=64->(bz g i).Pairwise fun c d=>cb (msk g i c)<cb (msk g i d)
 | 0,_=>List.Pairwise.nil
 |i+1,hi=>by
  have ih:=vv g i (by lia);have up:(bz g i).Pairwise fun c d=>cb (msk g (i+1) c)<cb (msk g (i+1) d):=List.Pairwise.imp_of_mem (fun {c d} hc hd z=>by rw[tW (by lia) hc,tW (by omega) hd];exact z) ih;cases e:g i with
  |none=>rw[iY e];exact up
  |some c=>
   by_cases h:c∈bz g i
   ·rw[mZ e h];exact up
   ·rw[j6 e h,List.pairwise_append];refine⟨up,by simp,fun a ha b hb=>?_⟩;rw[Gk.mp hb,B7 (by omega) e h,tW (by omega) ha];exact f9 (nI g a i) (by omega) (tT ha)
theorem kM(g:Nat->Option Col):bq g ((bz g 64).map fun c=>(msk g 64 c,c)):=by
 refine⟨?_,fun p hp=>?_,fun i c hi e=>?_,?_⟩
 ·rw[HR];show((bz g 64).map id).Nodup;rw[List.map_id];exact mY g 64
 ·obtain⟨c,hc,rfl⟩:=Gm.mp hp;refine⟨nI g c 64,tT hc,fun i hi=>?_⟩;rw[fM];exact⟨fun z=>z.2,fun z=>⟨hi,z⟩⟩
 ·rw[HR];exact Gm.mpr ⟨c,(gF g c 64).mpr ⟨i,hi,e⟩,rfl⟩
 ·rw[HZ];exact vv g 64 (Gr _)
def GD(K:Frag)(H:Hp)(kvs:List (Key×V))(g:Nat->Option Col):Prop:=∀i:Nat,(fo kvs (.inl (i:Int))=none/\g i=none)\/∃b c,fo kvs (.inl (i:Int))=some (.ref b)/\g i=some c/\bX K H b c
theorem GD.tk{K:Frag}{H H':Hp}{kvs:List (Key×V)}{g:Nat->Option Col}(t:TK H H')(h:GD K H kvs g):GD K H' kvs g:=fun i=>by
 rcases h i with z|⟨b,c,e1,e2,e3⟩
 ·exact .inl z
 ·exact .inr ⟨b,c,e1,e2,e3.tk t⟩
theorem GD.nil{K:Frag}{H:Hp}:GD K H [] fun _=>none:=fun _=>.inl ⟨rfl,rfl⟩
theorem GD.put{K:Frag}{H:Hp}{kvs:List (Key×V)}{g:Nat->Option Col}{k:Nat}{b:Addr}{c:Col}(h:GD K H kvs g)(hc:bX K H b c):GD K H (putK kvs (.inl (k:Int)) (.ref b)) fun i=>if i=k then some c else g i:=fun i=>by
 rw[zj];by_cases e:i=k
 ·subst e;exact .inr ⟨b,c,Gz rfl,Gz rfl,hc⟩
 ·have e':¬(Sum.inl (i:Int):Key)=.inl (k:Int):=fun z=>e (by have:=Sum.inl.inj z;lia);show(_/\(if i=k then some c else g i)=none)\/∃b' c',_/\(if i=k then some c else g i)=some c'/\_;rw[Gu e',Gu e];exact h i
def yW(K:Frag)(H:Hp)(v:V)(c:Col):Prop:=∃b,v=.ref b/\bX K H b c
theorem yW.tk{K:Frag}{H H':Hp}{v:V}{c:Col}(t:TK H H')(h:yW K H v c):yW K H' v c:=by obtain⟨b,e,z⟩:=h;exact⟨b,e,z.tk t⟩
theorem kU{α β:Type}{R:α->β->Prop}{as:List α}{bs:List β}(h:Paired R as bs){a:α}(ha:a∈as):∃b∈bs,R a b:=by obtain⟨i,hi,rfl⟩:=List.getElem_of_mem ha;obtain⟨b,hb,r⟩:=aQ h (GB hi);exact⟨b,Gp hb,r⟩
end L2
namespace L2
open PySem PySem.Spec PyProof.Rows My
theorem xy{n j:Nat}(h:j<n):ixN n (j:Int)=some j:=by unfold ixN;rw[Gz (by omega),Gz (by lia),Hg]
theorem B4{g:Nat->Option Col}{i:Nat}{c:Col}(h:¬c∈bz g i):msk g i c=0:=by
 refine Nat.eq_of_testBit_eq fun t=>?_;rw[Nat.zero_testBit];cases e:(msk g i c).testBit t with
 |false=>rfl
 |true=>exact absurd ((gF g c i).mpr ⟨t,(fM g c t i).mp e⟩) h
end L2
namespace L2
open PySem PySem.Spec PyProof.Rows
theorem bq.congr{g g':Nat->Option Col}{R:cw}(h:bq g R)(e:∀i,i<64->g i=g' i):bq g' R:=by refine⟨h.nd,fun p hp=>?_,fun i c hi w=>h.all i c hi (by rw[e i hi];exact w),h.so⟩;obtain⟨a,b,c⟩:=h.ok p hp;exact⟨a,b,fun i hi=>by rw[c i hi,e i hi]⟩
theorem TK.dk{H:Hp}{D:Addr}{kvs:List (Key×V)}{o:HO}(hD:H D=some (.dK kvs)):TK H (upd H D o):=
 ⟨fun _ _ e=>by rw[av (jj e hD (fun z=>nomatch z))];exact e,fun _ _ _ e=>by rw[av (jj e hD (fun z=>nomatch z))];exact e⟩
theorem tI{α β:Type}{R:α->β->Prop}{as as':List α}(p:as.Perm as'):∀{bs:List β},Paired R as bs->∃bs':List β,bs'.Perm bs/\Paired R as' bs':=by
 intro bs h;have sw:∀{as:List α}{bs:List β},Paired R as bs->Paired (fun b a=>R a b) bs as:=by
  intro as bs h
  induction h with
  |nil=>exact .nil
  |cons a _ ih=>exact .cons a ih
 have ws:∀{as:List α}{bs:List β},Paired (fun b a=>R a b) bs as->Paired R as bs:=by
  intro as bs h
  induction h with
  |nil=>exact .nil
  |cons a _ ih=>exact .cons a ih
 obtain⟨d,h1,h2⟩:=jG p (sw h);exact⟨d,h1.symm,ws h2⟩
def eE(r:List Key):Prop:=∃n k x m u,r=[.inl n,.inr k,.inr x,.inl m,.inl u]
noncomputable def aN:List Key->Int
 | .inl n::_=>n
 |_=>0
end L2
namespace L2
open PySem PySem.Spec PyProof PyProof.Rows
section
variable{prog:Program}{w:World}{A:Around}{R:Result->Shared->Prop}{I S:Addr}{fp wr:List Addr}{n:Nat}{P:Nat->Value->Prop}{St:Nat->Heap->Prop}{kw:List (Str×Value)}{bt:Nat->Nat->Bool}
noncomputable def xS(vs:Array Value)(c:Nat):Obj:={cls:=.type "list",dict:=none,data:=.seq vs c,slots:= #[]}
theorem mxn:(toString "max"++toString ".loop":String)="max.loop":=by decide
theorem Fc(W:Walks prog w A.in1 I fp wr n P St)(cmp:CmpOf prog w A.in1 .Gt P bt)(out:S∉fp)(k:Nat):
  ∀{j:Nat}{s:Shared}{b:Value}{c:Nat},j+1+k=n->St (j+1) s.heap->P (argBest bt j) b->s.heap.get? S=some (xS #[b,b] c)->
  (∀v h' tk,P (argBest bt (n-1)) v->(∀a o,a∉wr->a≠S->s.heap.get? a=some o->h'.get? a=some o)->R (.ok (.ret v)) {s with heap:=h',toks:=tk})->
  codeAny (model prog w) A (.builtin "max.loop" ⟨[.ref I,.none,.ref S],kw⟩) R s:=by
 have outw:S∉wr:=fun z=>out (W.sub _ z)
 induction k with
 |zero=>intro j s b c e st pb hS fin;have e':j+1=n:=e;refine codeAny_builtin F.entry_max_loop ?_;rw[Around.under_plainId F.plain_max_loop _];refine Gg (wpAny_seqItems hS rfl ?_);refine Gg (wpAny_tryCatch (W.done s _ _ (e'▸st) fun h' tk kept=>?_));have hS2:=kept S _ outw hS;refine Gg ?_;exact wpAny_updateSeq hS2 rfl (Gg (wpAny_letGo (Gj (fin b _ tk (by rw[<-e'];exact pb) fun a o h1 h2 h3=>(Hf _ _ (HB h2)).trans (kept a o h1 h3)))))
 |succ k ih=>
  intro j s b c e st pb hS fin;refine codeAny_builtin F.entry_max_loop ?_;rw[Around.under_plainId F.plain_max_loop _];refine Gg (wpAny_seqItems hS rfl ?_);refine Gg (wpAny_tryCatch (W.item (j+1) s _ _ (by lia) st fun v h' tk pv st2 kept=>?_));have hS2:=kept S _ outw hS;refine Gg (Gj ?_);refine Gg (wpAny_tryCatch (Hr (Gg (cmp (j+1) (argBest bt j) v b _ _ _ pv pb (Gg (Hr (wpAny_truthy_bool (Gg (wpAny_letGo (Gj ?_))))))))));by_cases hb:bt (j+1) (argBest bt j)=true
  ·have eb:argBest bt (j+1)=j+1:=Gz hb;rw[hb,Gz rfl];refine Gg ?_;refine wpAny_updateSeq hS2 rfl (Gg (wpAny_letGo ?_));rw[mxn];exact Gj ⟨plainId_quiet F.plain_max_loop _,ih (by lia) (W.frame _ _ _ st2 fun a ha o q=>(Hf _ _ (fun z:S=a=>out (z▸ha))).trans q) (by rw[eb];exact pv) (Ho _ hS2 rfl) fun v2 h2 t2 p2 k2=>fin v2 h2 t2 p2 fun a o z1 z2 z3=>k2 a o z1 z2 ((Hf _ _ (HB z2)).trans (kept a o z1 z3))⟩
  ·have eb:argBest bt (j+1)=argBest bt j:=Gu hb;rw[Bool.eq_false_iff.mpr hb,Gu (by decide)];refine Gg (wpAny_letGo ?_);rw[mxn];exact Gj ⟨plainId_quiet F.plain_max_loop _,ih (by omega) st2 (by rw[eb];exact pb) hS2 fun v2 h2 t2 p2 k2=>fin v2 h2 t2 p2 fun a o z1 z2 z3=>k2 a o z1 z2 (kept a o z1 z3)⟩
theorem BZ{x d:Value}{s:Shared}{E:Value->Shared->Prop}{Q:Value->Shared->Prop}
  (h:wpAny (model prog w) A.in1 (pyIter x) (fun it s2=>∃I fp wr n P St bt,it=.ref I/\Walks prog w A.in1 I fp wr n P St/\St 0 s2.heap/\(∀b∈fp,b<s2.heap.objs.size)/\CmpOf prog w A.in1 .Gt P bt/\ (n=0->∀h' tk,(∀b o,b∉wr->s2.heap.get? b=some o->h'.get? b=some o)->Q d {s2 with heap:=h',toks:=tk})/\
   (0<n->∀v h' tk,P (argBest bt (n-1)) v->(∀b o,b∉wr->s2.heap.get? b=some o->h'.get? b=some o)->Q v {s2 with heap:=h',toks:=tk})) E s):
  wpAny (model prog w) A (call (.builtin "max") [x] [("default",d)]) Q E s:=by
 have ok:argsOk "max" ⟨[x],[("default",d)]⟩:=by unfold argsOk;kernel_rfl
 refine wpAny_call (codeAny_call_builtin F.plain_max F.entry_max ?_);simp only[checkBuiltinCall,F.kind_max]
 have body:wpAny (model prog w) A.in1 (Builtin.«max» ⟨[x],[("default",d)]⟩) (fun fin s'=>match fin with
   | .done f=>(match (Except.ok f:Result)with| .ok (.ret v)=>Q v s'| .ok _=>False| .error e=>E e s')
   | .again c'=>c'.quiet=true/\codeAny (model prog w) A c' (fun r s'=>match r with| .ok (.ret v)=>Q v s'| .ok _=>False| .error e=>E e s') s') E s:=by
  refine Gg (wpAny_of_eq (show Builtin.Builtins.bindParams "max" ["key","default"] 0 ⟨[],[("default",d)]⟩=pure [none,some d]from rfl) (Gg (Gj (Gg (Ha h (fun it s2 q=>?_) fun _ _ e=>e)))));obtain⟨I,fp,wr,n,P,St,bt,rfl,W,st,lt,cmp,q0,q1⟩:=q;refine Gg (Hn ?_);have out:s2.heap.objs.size∉fp:=fun z=>HW _ (lt _ z);have outw:s2.heap.objs.size∉wr:=fun z=>out (W.sub _ z);have st1:=W.frame _ _ (s2.heap.push (xS #[] 0)) st fun b _ o e=>Gi _ e;have hS:(s2.heap.push (xS #[] 0)).get? s2.heap.objs.size=some (xS #[] 0):=GO _ rfl;rw[mxn];refine Gj ⟨plainId_quiet F.plain_max_loop _,codeAny_builtin F.entry_max_loop ?_⟩;rw[Around.under_plainId F.plain_max_loop _];refine Gg (wpAny_seqItems hS rfl ?_);rcases Nat.eq_zero_or_pos n with e0|e0
  ·refine Gg (wpAny_tryCatch (W.done _ _ _ (e0▸st1) fun h' tk kept=>?_));refine Gg (wpAny_rule ?_);exact Gj (q0 e0 h' tk fun b o z1 z2=>kept b o z1 (Gi _ z2))
  ·refine Gg (wpAny_tryCatch (W.item 0 _ _ _ e0 st1 fun v h' tk pv st2 kept=>?_));have hS2:=kept _ _ outw hS;refine Gg (Gj (Gg ?_));refine wpAny_updateSeq hS2 rfl ?_;rw[mxn];refine Gj ⟨plainId_quiet F.plain_max_loop _,Fc W cmp out (n-1) (j:=0) (b:=v) (by lia) (W.frame _ _ _ st2 fun a ha o q=>(Hf _ _ (fun z:s2.heap.objs.size=a=>out (z▸ha))).trans q) pv (Ho _ hS2 rfl) fun v2 h2 t2 p2 k2=>q1 e0 v2 h2 t2 p2 fun a o z1 z3=>?_⟩;have ne:a≠s2.heap.objs.size:=G5 (GG z3);exact k2 a o z1 ne ((Hf _ _ (HB ne)).trans (kept a o z1 (Gi _ z3)))
 cases hsig:Manifest.signature? "max" with
 |none=>exact Gj body
 |some sig=>
  have ha:Bind.checkArgs "max" sig ⟨[x],[("default",d)]⟩=pure ():=by simpa only[argsOk,hsig]using ok
  simp only[ha];exact Gj body
end
def EN(K:Frag)(t:TA)(td:TE):TE:=fun σ H Q=>t σ H fun xs H1=>td σ H1 fun y H2=>∃(p:Addr)(ns:List Int),xs=[.ref p]/\SqL K H2 p (ns.map V.int)/\(ns=[]->Q y H2)/\(ns≠[]->∀m,m∈ns->(∀a,a∈ns->a<=m)->Q (.int m) H2)
section
variable{X:Cx}{e d:Expr}{t:TA}{td:TE}{p kp pos:Pos}
theorem BM(hc:X.calm=true)(hs:Gl X "max")(hm:X.mg "max"=none)(ha:PA X [e] t)(hd:PE X d td)(hst:starEach [e] X.env=[(false,eval e X.env)]:=by rfl):
  PE X (.Call (.Name "max" p) [e] [⟨some "default",d,kp⟩] pos) (EN X.K t td):=by
 intro pins s σ H Q I h;refine wpAny_Call_Name_kw (lJ I hs hm (by decide+kernel:bootBuiltins "max"=some (.builtin "max")) ?_ (by decide) (by decide));refine PyProof.Rows.callWith_kw (thn (ha pos pins s σ H _ I h) fun us s1 hPz=>?_) (by rw[hst];rfl) (by rw[hst];rfl) (by rfl) (by rfl);obtain⟨xs,H1,I1,r1,q1⟩:=hPz;refine PyProof.Rows.kws_cons (thn (hd pins s1 σ H1 _ I1 q1) fun dv s2 ⟨y,H2,I2,ry,l,ns,ex,hx,q0,q2⟩=>PyProof.Rows.kws_nil ?_);subst ex;obtain⟨u,rfl,ru⟩:=vals1 r1;cases ru;obtain⟨vs,rv,pl,hz⟩:=I2.list hx;have hi:=intsAre_of rv;obtain⟨ys,ei⟩:=hi.allInts.items;have hns:ns=ys.toList.map (·.1):=by rw[<-hi.numsOf,<-nums_intItems,<-ei]
 have hl:=pl.isList;rw[ei]at hl;refine BZ (iter_intList hl fun s3 e3 st lt hlI=>?_);subst e3;refine⟨_,_,_,_,_,_,_,rfl,Walks.list (A:=X.A.in1) (I2.ok.hd hc) _ l hlI (intItems ys),st,lt,CmpOf.ints_gt (numAt ys) (fun _ _=>intItems_at),fun z h' tk hk=>?_,fun z v h' tk hP hk=>?_⟩
 ·have z':ns=[]:=by
   rw[hns];have:ys.size=0:=(by simpa[intItems]using z);rw[List.map_eq_nil_iff];exact List.length_eq_zero_iff.mp (by rw[Hh];exact this)
  exact⟨y,H2,I2.kept (old_kept hk),ry,q0 z'⟩
 ·have z':0<ys.size:=by simpa[intItems]using z
  have hP':(intItems ys)[argBest (fun i j=>decide (numAt ys i>numAt ys j)) (ys.size-1)]?=some v:=by simpa[intItems]using hP
  obtain⟨tok,rfl⟩:=intItems_at hP';obtain⟨h1,h2⟩:=argBest_gt (numAt ys) (ys.size-1);refine⟨.int _,H2,I2.kept (old_kept hk),⟨tok,rfl⟩,q2 (fun w=>?_) _ ?_ fun a ha=>?_⟩
  ·rw[w]at hns;have:=congrArg List.length hns;rw[Gh,Hh]at this;exact absurd this (by simp;lia)
  ·rw[hns,numAt_eq];exact getD_mem (by rw[Gh,Hh];omega)
  ·rw[hns]at ha;obtain⟨j,hj,rfl⟩:=mem_getD ha;rw[Gh,Hh]at hj;rw[<-numAt_eq];exact h2 j (by omega)
end
end L2
namespace L2
open PySem PySem.Spec PyProof.Rows
noncomputable def oC(R:cw):List Int:=R.map fun p=>((p.2.length:Nat):Int)
def C4(l:List Int)(m:Int):Prop:=m∈l/\∀a,a∈l->a<=m
theorem bX.len{K:Frag}{H:Hp}{b:Addr}{c:Col}(h:bX K H b c):∃xs,SqT K H b xs/\xs.length=c.length:=by obtain⟨_,xs,h1,h2⟩:=h;exact⟨xs,h1,Gw h2⟩
structure A6(C:List Col)(T:Col):Prop where
 so:T.Pairwise fun a b=>aN a<aN b
 mem:∀r,r∈T<->∃c∈C,r∈c
def KB(K:Frag)(H:Hp)(kv:Key×V)(r:List Key):Prop:=kv.1=.inl (aN r)/\bM K H kv.2 r
theorem D1{K:Frag}{H:Hp}{n:Int}{kvs:List (Key×V)}{D:List (List Key)}(hI:Paired (KB K H) kvs D):(kvs.any fun kv=>decide (kv.1=.inl n))=D.any fun d=>decide (aN d=n):=by
 induction hI with
 |nil=>exact rfl
 | @cons kv d _ _ a b ih=>
  rw[List.any_cons,List.any_cons,ih,a.1];congr 1;by_cases h:aN d=n
  ·rw[h,GN rfl,GN rfl]
  ·rw[GZ h,GZ (fun z=>h (Sum.inl.inj z))]
theorem D0{K:Frag}{H:Hp}{v:V}{r:List Key}(hv:bM K H v r){kvs:List (Key×V)}{D:List (List Key)}(hI:Paired (KB K H) kvs D):(∀d∈D,aN d=aN r->d=r)->Paired (KB K H) (kvs.map fun kv=>if kv.1=.inl (aN r)then(kv.1,v)else kv) D:=by
 induction hI with
 |nil=>exact fun _=>.nil
 | @cons kv d _ _ a b ih=>
  intro hu;rw[GC];refine .cons ?_ (ih fun d' hd'=>hu d' (Gs _ hd'));by_cases h:kv.1=.inl (aN r)
  ·rw[Gz h];have e:aN d=aN r:=Sum.inl.inj (a.1.symm.trans h);have:=hu d (Gy ..) e;subst this;exact⟨a.1,hv⟩
  ·rw[Gu h];exact a
noncomputable def rl(D:List (List Key))(r:List Key):List (List Key):=if(D.any fun d=>decide (aN d=aN r))=true then D else D++[r]
theorem Ao{K:Frag}{H:Hp}{v:V}{r:List Key}(hv:bM K H v r){kvs:List (Key×V)}{D:List (List Key)}(h:Paired (KB K H) kvs D)(hu:∀d∈D,aN d=aN r->d=r):Paired (KB K H) (putK kvs (.inl (aN r)) v) (rl D r):=by
 unfold putK rl;rw[D1 h];split
 ·exact D0 hv h hu
 ·exact Paired.app h (.cons ⟨rfl,hv⟩ .nil)
theorem vC{D:List (List Key)}{r x:List Key}(hu:∀d∈D,aN d=aN r->d=r):x∈rl D r<->x∈D\/x=r:=by
 unfold rl;split
 ·rename_i h;obtain⟨d,hd,e⟩:=Ih.mp h;have:=hu d hd (GU e);subst this;exact⟨.inl,fun z=>z.elim id fun w=>by rw[w];exact hd⟩
 ·rw[Gv,Gk]
theorem xU{D:List (List Key)}{r:List Key}(nd:(D.map aN).Nodup):((rl D r).map aN).Nodup:=by
 unfold rl;split
 ·exact nd
 ·rename_i h;rw[GK,List.nodup_append];refine⟨nd,by simp,fun a ha b hb e=>h ?_⟩;rw[GC,List.map_nil,Gk]at hb;obtain⟨d,hd,ed⟩:=Gm.mp ha;exact Ih.mpr ⟨d,hd,GN (by rw[ed,e,hb])⟩
theorem An{K:Frag}{H:Hp}{n:Int}{kvs:List (Key×V)}{D:List (List Key)}(hI:Paired (KB K H) kvs D):n∈D.map aN->∃v r,fo kvs (.inl n)=some v/\r∈D/\aN r=n/\bM K H v r:=by
 induction hI with
 |nil=>exact fun h=>by cases h
 | @cons kv d _ _ a b ih=>
  intro h;by_cases z:aN d=n
  ·exact⟨kv.2,d,dj (by rw[a.1,z]),Gy ..,z,a.2⟩
  ·rw[GC]at h;rcases GH.mp h with w|w
   ·exact absurd w.symm z
   ·obtain⟨v,r,h1,h2,h3,h4⟩:=ih w;exact⟨v,r,by rw[dq (fun y=>z (Sum.inl.inj (a.1.symm.trans y)))];exact h1,Gs _ h2,h3,h4⟩
theorem xw{K:Frag}{H:Hp}{kvs:List (Key×V)}{D:List (List Key)}(hI:Paired (KB K H) kvs D):(kvs.map fun q=>kV q.1)=(D.map aN).map V.int:=by
 induction hI with
 |nil=>exact rfl
 |cons a b ih=>exact by rw[GC,GC,GC,ih,a.1];rfl
theorem tS{D:List (List Key)}(nd:(D.map aN).Nodup):∀a∈D,∀b∈D,aN a=aN b->a=b:=by
 induction D with
 |nil=>intro a ha;cases ha
 |cons d D ih=>
  rw[GC,Hv]at nd;intro a ha b hb e;rcases GH.mp ha with z|z<;>rcases GH.mp hb with w|w
  ·rw[z,w]
  ·exact absurd (Gm.mpr ⟨b,w,by rw[<-e,z]⟩) nd.1
  ·exact absurd (Gm.mpr ⟨a,z,by rw[e,w]⟩) nd.1
  ·exact ih nd.2 a z b w e
theorem C3{C:List Col}{D T:List (List Key)}{ns:List Int}(nd:(D.map aN).Nodup)(hD:∀r,r∈D<->∃c∈C,r∈c)(pm:ns.Perm (D.map aN))(so:ns.Pairwise (·<=·))(hT:T.map aN=ns)(sub:∀r∈T,r∈D):A6 C T:=by
 have inj:=tS nd;refine⟨?_,fun r=>?_⟩
 ·have n2:(T.map aN).Nodup:=by rw[hT];exact pm.nodup_iff.mpr nd
  have s2:(T.map aN).Pairwise (·<=·):=by rw[hT];exact so
  have both:=List.pairwise_and_iff.mpr ⟨s2,n2⟩;rw[HZ]at both;exact List.Pairwise.imp (fun {a b} ⟨x,y⟩=>by have:aN a≠aN b:=y;lia) both
 ·rw[<-hD];refine⟨sub r,fun h=>?_⟩;have:aN r∈T.map aN:=by rw[hT];exact pm.mem_iff.mpr (HM h)
  obtain⟨t,ht,e⟩:=Gm.mp this;rw[<-inj t (sub t ht) r h e];exact ht
theorem AO{xs:List V}{n:Nat}(hn:n<=xs.length):jO xs (some (n:Int)) none=xs.drop n:=by unfold jO;rw[HT.sU,HT.pX,Nat.min_eq_left hn];exact List.take_of_length_le (by rw[List.length_drop];lia)
theorem AQ{xs:List V}{n:Nat}(hn:n<=xs.length):jO xs none (some (n:Int))=xs.take n:=by unfold jO;rw[HT.sU,HT.pX,Nat.min_eq_left hn];rfl
theorem fg{α β:Type}{R:α->β->Prop}:∀{as:List α}{bs:List β}(n:Nat),Paired R as bs->Paired R (as.take n) (bs.take n)/\Paired R (as.drop n) (bs.drop n)
 |_,_,n,.nil=>by rw[List.take_nil,List.take_nil,List.drop_nil,List.drop_nil];exact⟨.nil,.nil⟩
 |_,_,0,.cons a b=>⟨.nil,.cons a b⟩
 |_,_,n+1,.cons a b=>⟨.cons a (fg n b).1,(fg n b).2⟩
section
variable{P:Program}{w:World}{A:Around}{E:Value->Shared->Prop}{s:Shared}{it a:Addr}{its:Array Value}{i:Nat}
theorem DL{Q:Value->Shared->Prop}{x:Value}(st:s.heap.IsTupleIter it a i)(g:s.heap.IsTuple a its)(hx:its[i]?=some x)
  (q:∀h',h'.IsTupleIter it a (i+1)->Heap.SameBut it s.heap h'->Q x {s with heap:=h'}):wpAny (model P w) A (Builtin.SmallTypes.nextOf (.ref it)) Q E s:=by
 obtain⟨oi,gi,ci,di⟩:=id st;obtain⟨ot,gt,_,n,dt⟩:=g;unfold Builtin.SmallTypes.nextOf;refine Gg (HV (name:=Str.ofString "__next__") st.typeIs F.slot_tuple_iterator_next (HD F.slot_tuple_iterator_next st.typeIs F.entry_tuple_iterator_next ?_ (F.args_tuple_iterator_next_1 _)));show wpAny _ _ (field (.ref it) 0>>= _) _ _ s;refine Gg (wpAny_field gi di (x:=.ref a) rfl ?_);show wpAny _ _ (if(Value.ref a==Value.none)=true then _ else _) _ _ s;rw[Gu (show ¬((Value.ref a==Value.none)=true)from GJ)];show wpAny _ _ (field (.ref it) 1>>= _) _ _ s;refine Gg (wpAny_field gi di (x:=.int i 0) rfl ?_);show wpAny _ _ (seqItems? (.ref a)>>= _) _ _ s;refine Gg (wpAny_seqItems gt dt ?_);simp only[Hg,hx];refine Gg (wpAny_setField gi di (by simp) (Gj ⟨x,rfl,Gj (q _ ?_ (Ht ..))⟩));refine⟨_,Ho _ gi (Obj.isFreed_of_fields (Obj.data_mapFields di _)),(Obj.cls_mapFields ..).trans ci,?_⟩;rw[Obj.data_mapFields di];simp[rawInt]
theorem BV{Q:Value->Shared->Prop}(hh:A.handled=none)(st:s.heap.IsTupleIter it a i)(g:s.heap.IsTuple a its)(hx:its[i]?=none)
  (q:∀h' e,Heap.ExtBut it s.heap h'->(∃o,h'.get? e=some o/\o.cls=.type "StopIteration")->E (.ref e) {s with heap:=h'}):wpAny (model P w) A (Builtin.SmallTypes.nextOf (.ref it)) Q E s:=by
 obtain⟨oi,gi,ci,di⟩:=id st;obtain⟨ot,gt,_,n,dt⟩:=g;unfold Builtin.SmallTypes.nextOf;refine Gg (HV (name:=Str.ofString "__next__") st.typeIs F.slot_tuple_iterator_next (HD F.slot_tuple_iterator_next st.typeIs F.entry_tuple_iterator_next ?_ (F.args_tuple_iterator_next_1 _)));show wpAny _ _ (field (.ref it) 0>>= _) _ _ s;refine Gg (wpAny_field gi di (x:=.ref a) rfl ?_);show wpAny _ _ (if(Value.ref a==Value.none)=true then _ else _) _ _ s;rw[Gu (show ¬((Value.ref a==Value.none)=true)from GJ)];show wpAny _ _ (field (.ref it) 1>>= _) _ _ s;refine Gg (wpAny_field gi di (x:=.int i 0) rfl ?_);show wpAny _ _ (seqItems? (.ref a)>>= _) _ _ s;refine Gg (wpAny_seqItems gt dt ?_);simp only[Hg,hx]
 first
  |refine Gg (wpAny_rule (Gg (wpAny_setField gi di (by simp) (Gg (wpAny_letGo ?_)))))
  |refine Gg (wpAny_rule (Gg (wpAny_setField gi di (by simp) ?_)))
  |refine Gg (wpAny_setField gi di (by simp) ?_)
 show wpAny _ _ (newExc (.type "StopIteration") []>>= _) _ _ _;refine Gg ?_;simp only[newExc,newTuple];refine Gg (Hn ?_ (by size_fits));refine Gg (m:=firstArgMember _ _) (wpAny_of_eq (a:=Value.none) (by first|rfl|(simp only[firstArgMember];rfl)) (Hn ?_ (by size_fits)));simp only[raiseNew];refine Gg (wpAny_handled ?_)
 first|rw[show A.in1.handled=none from hh]|rw[hh]
 refine Gg (Gj (wpAny_throw ?_));exact q _ _ (((Ht ..).extBut.push _).push _) ⟨_,GO _ rfl,rfl⟩
theorem AF(hh:A.handled=none)(ne:a≠it):Draws P w A it [it,a] its.size (fun i x=>its[i]?=some x) (fun i h=>h.IsTupleIter it a i/\h.IsTuple a its) where
 live:=fun i h st=>by obtain⟨⟨o,e,_⟩,_⟩:=st;exact⟨o,e⟩
 frame:=fun i h h' st k=>⟨st.1.at fun o e=>k it (by simp) o e,by
  obtain⟨o,e,r⟩:=st.2
  exact⟨o,k a (by simp) o e,r⟩⟩
 item:=fun i s Q E hi st q=>DL st.1 st.2 (Array.getElem?_eq_getElem hi) fun h' st' sb=>q _ h' s.toks (Array.getElem?_eq_getElem hi) ⟨st',by
  obtain⟨o,e,r⟩:=st.2
  exact⟨o,(sb.2 a ne).trans e,r⟩⟩ sb
 done:=fun s Q E st q=>BV hh st.1 st.2 (Array.getElem?_eq_none (Gr _)) q
end
section
variable{X:Cx}{pins:List (Addr×Obj)}{σ:St}{H:Hp}{s:Shared}{h':Heap}
theorem Bk{t':Nat}{e it T:Addr}{xs:List V}(I:Inv X pins σ H s)(k:∀b o,b≠e->b≠it->s.heap.get? b=some o->h'.get? b=some o)(he:lS X pins H e)(hi:lS X pins H it)
  (hT:s.heap.objs.size<=T) (new:b9 X.prog X.w (upd H T (.tup xs)) h' T (.tup xs)):Inv X pins σ (upd H T (.tup xs)) {s with heap:=h',toks:=t'}:=by
 obtain⟨e0,e1,e2,e3,e4,e5⟩:=he;obtain⟨i0,i1,i2,i3,i4,i5⟩:=hi;have hn:H T=none:=I.hok.fresh hT;have nt:∀b o,s.heap.get? b=some o->b≠T:=fun b o g z=>absurd (Gx (GG g) (z▸hT)) (HW _);have ue:∀b u,H b=some u->upd H T (.tup xs) b=some u:=fun b u g=>by rw[av (c9 g hn)];exact g
 have k2:∀b o,b∉[e,it]->s.heap.get? b=some o->h'.get? b=some o:=fun b o hb g=>k b o (fun z=>hb (by simp[z])) (fun z=>hb (by simp[z])) g;refine I.step (g':=s.gens) (d':=s.drawn) (ch:=[e,it]) (fun b hb=>?_) (fun b o _ _ hc g _=>k2 b o hc g) (fun b o _ _ hc g _=>⟨o.slots,k2 b o hc g⟩) (fun b o _ g n=>by rw[av (nt b o g)];exact n)
  (fun b o hc g=>⟨o,k2 b o hc g⟩) (fun b ys g=>ue b _ g) (fun b o u g=>ue b _ g) (fun b ps g=>⟨#[],by rw[ue b _ g];simp⟩) (fun m hm=>?_) (fun b u g=>?_) I.bare
 ·have z:b=e\/b=it:=by simpa using hb
  rcases z with rfl|rfl
  ·exact⟨e3,e1,e4,e5⟩
  ·exact⟨i3,i1,i4,i5⟩
 ·obtain⟨o,es,ep,ho,r⟩:=hm;exact⟨o,es,ep,k _ o (HB e1) (HB i1) ho,r⟩
 ·by_cases hb:b=T
  ·subst hb;rw[af]at g;cases g;exact new
  ·rw[av hb]at g;refine(I.hok b u g).stay (fun c v hc q=>?_) (fun c q=>ue c _ q) fun c ys q=>ue c _ q;have z:∃u',H c=some u':=by
    rcases hc with z|z
    ·exact⟨u,z▸g⟩
    ·exact⟨_,z⟩
   obtain⟨u',z⟩:=z;exact k c v (fun y=>by rw[y,e0]at z;cases z) (fun y=>by rw[y,i0]at z;cases z) q
end
noncomputable def Ite(K:Frag)(a:Addr):It:=
 ⟨fun i H=>∃xs x,SqT K H a xs/\xs[i]?=some x,fun i H x H'=>∃T v,H T=none/\x=.ref T/\H'=upd H T (.tup [.int (i:Nat),v])/\∀xs,SqT K H a xs->xs[i]?=some v,fun i H=>∃xs,SqT K H a xs/\xs.length=i⟩
theorem x4{P:Program}{w:World}{K:Frag}{elts:List Expr}{x1:Nat}{pos:Pos}(a e it:Addr)(ne:e≠it):Turn P w K (.Tuple elts x1 pos) (Ite K a) [e,it] e (fun i h=>(∃old,IsEnum h e it (i:Nat) old)/\h.IsTupleIter it a i) where
 mem:=by simp
 obj:=fun i h st b hb=>by
  have z:b=e\/b=it:=by simpa using hb
  obtain⟨⟨old,st1⟩,o,st2,c,d⟩:=st;rcases z with rfl|rfl
  ·exact⟨_,st1,fun v z=>by cases z⟩
  ·exact⟨o,st2,fun v z=>by rw[d]at z;cases z⟩
 keep:=fun i h h' st k=>by obtain⟨⟨old,st1⟩,st2⟩:=st;exact⟨⟨old,k e (by simp) _ st1⟩,st2.at fun o g=>k it (by simp) o g⟩
 item:=by
  intro X hP hw hK hc i pins s σ H E I hf st hg;subst hP hw hK;obtain⟨xs,x,hq,hx⟩:=hg;obtain⟨its,rv,p,hz⟩:=I.tuple hq;obtain⟨u,hu,ru⟩:=rv.get hx;obtain⟨⟨old,st1⟩,st2⟩:=st;have fe:=hf e (by simp);have fi:=hf it (by simp);have hai:a≠it:=fun z=>by obtain⟨o,g1,c1,_⟩:=st2;obtain⟨o',g2,c2,_⟩:=p;rw[z,g1]at g2;cases g2;rw[c1]at c2;exact absurd c2 (by decide)
  have hae:a≠e:=fun z=>by obtain⟨o',g2,c2,_⟩:=p;rw[z,st1]at g2;cases g2;have c3:Value.type "enumerate"=Value.type "tuple":=c2;exact absurd c3 (by decide)
  have lt:i<its.toArray.size:=by have:=(GA.mp hu).1;simpa using this
  have D:Draws X.prog X.w X.A.in1 it [it,a] its.toArray.size (fun i x=>its.toArray[i]?=some x) (fun i h=>h.IsTupleIter it a i/\h.IsTuple a its.toArray):=AF (I.ok.hd hc) hai;refine wpAny_pyNext_enum_itemD D st1 ⟨st2,p⟩ lt ne (by simp[ne,HB hae]) fun y h' tk hy o1 o2 o3 o4 k=>?_;have ey:y=u:=by have z:its.toArray[i]?=some u:=(by simpa using hu);rw[z]at hy;exact(G2 hy).symm
  subst ey;refine⟨_,rfl,?_⟩;refine wpAny_letOwnedTupleGo_enum (s:={s with heap:=h',toks:=tk+1}) o1 fun h2 st1' sb=>?_;have nT:s.heap.objs.size≠e:=Nat.ne_of_gt (GG st1);have kk:∀b o,b≠e->b≠it->s.heap.get? b=some o->h2.get? b=some o:=fun b o q1 q2 q=>(sb.2 b q1).trans (k b o q1 q2 q);refine⟨.ref s.heap.objs.size,upd H s.heap.objs.size (.tup [.int (i:Nat),x]),(show Inv X pins σ (upd H s.heap.objs.size (.tup [.int (i:Nat),x])) {s with heap:=h2,toks:=tk+1}from Bk (s:=s) (h':=h2) (t':=tk+1) I kk fe fi (Gr _) ?_),rfl,⟨_,x,I.hok.fresh (Gr _),rfl,rfl,fun ys hy=>by rw[I.tuple_inj hy hq];exact hx⟩,⟨⟨_,by simpa using st1'⟩,?_⟩,fun b hb=>?_⟩
  ·exact⟨by show 2<=sizeLine;decide,[.int i tk,y],.cons ⟨tk,rfl⟩ (.cons ru .nil),⟨_,(sb.2 _ nT).trans o3,rfl,_,rfl⟩⟩
  ·exact o2.1.at fun o g=>(sb.2 it (HB ne)).trans g
  ·have nb:b≠s.heap.objs.size:=by
    have z:b=e\/b=it:=(by simpa using hb);rcases z with rfl|rfl
    ·exact G5 (GG st1)
    ·obtain⟨o,g,_⟩:=st2;exact G5 (GG g)
   rw[av nb];exact(hf b hb).1
 done:=by
  intro X hP hw hK hc i pins s σ H E I hf st hg;subst hP hw hK;obtain⟨xs,hq,hx⟩:=hg;obtain⟨its,rv,p,hz⟩:=I.tuple hq;obtain⟨⟨old,st1⟩,st2⟩:=st;obtain⟨f0,f1,f2,f3,f4,f5⟩:=hf it (by simp);have hai:a≠it:=fun z=>by obtain⟨o,g1,c1,_⟩:=st2;obtain⟨o',g2,c2,_⟩:=p;rw[z,g1]at g2;cases g2;rw[c1]at c2;exact absurd c2 (by decide)
  have D:Draws X.prog X.w X.A.in1 it [it,a] its.toArray.size (fun i x=>its.toArray[i]?=some x) (fun i h=>h.IsTupleIter it a i/\h.IsTuple a its.toArray):=AF (I.ok.hd hc) hai;have el:i=its.toArray.size:=by
   have:=rv.length;simp
   lia
  exact wpAny_pyNext_enum_endD D st1 ⟨el▸st2,p⟩ fun h' eb=>⟨rfl,I.turned (t':=s.toks) (fun b o hb g=>eb b o hb g) f0 f1 f3 f4 f5⟩
 self:=fun A i s Q E st h=>by obtain⟨⟨old,st1⟩,_⟩:=st;exact wpAny_pyIter_enum st1 h
open AutoSeq1 (wpAny_loadPart')in
theorem yu(l:Addr)(items:Array Value)(n:Nat)(dct:Option Addr)(sl:Array (Option Value)):Meets (Builtin.«enumerate.__new__» ⟨[.type "enumerate",.ref l],[]⟩) (fun _ R s=>s.heap.get? l=some {cls:=.type "tuple",dict:=dct,data:=.seq items n,slots:=sl}/\
  R (.ok (.ret (.ref (s.heap.push {cls:=.type "tuple_iterator",data:=.fields #[.ref l,.int 0 0]}).objs.size))) {s with heap:=(s.heap.push {cls:=.type "tuple_iterator",data:=.fields #[.ref l,.int 0 0]}).push {cls:=.type "enumerate",data:=.fields #[.none,.bool false,.ref s.heap.objs.size,rawInt 0,.none,.none]}}):=
 .of_wp fun prog w A R s h=>by
  obtain⟨hp,g,d,tk,os⟩:=s
  obtain⟨hl,h⟩:=h
  have sb:=sub_enumerate
  have hT:Heap.IsTuple (Shared.heap ⟨hp,g,d,tk,os⟩) l items:=⟨_,hl,rfl,n,rfl⟩
  wp_walk using wpAny_loadPart' hl
  refine wpAny_stack_any fun st=>Gj ?_
  split
  ·rename_i c _ _ _ _ _
   cases (c==Value.type "enumerate")<;>(wp_walk using wpAny_loadPart' hl,wpAny_pyIter_tuple hT;exact⟨_,rfl,h⟩)
  ·wp_walk using wpAny_loadPart' hl,wpAny_pyIter_tuple hT
   exact⟨_,rfl,h⟩
section
variable{X:Cx}{elts:List Expr}{x1:Nat}{tp:Pos}
def F5(K:Frag)(ta:TA):TI:=fun σ H R=>ta σ H fun vs H1=>∃a,vs=[.ref a]/\(∃xs,SqT K H1 a xs)/\R (Ite K a) H1
theorem xj{l:Expr}{ta:TA}{p pos:Pos}(hg:Gl X "enumerate")(hm:X.mg "enumerate"=none)(ha:PA X [l] ta)(hs:starEach [l] X.env=[(false,eval l X.env)]:=by rfl):PI X (.Tuple elts x1 tp) (.Call (.Name "enumerate" p) [l] [] pos) (F5 X.K ta):=by
 intro pins s σ H R I h;refine Call_ (lJ I hg hm boot_enumerate (PyProof.Rows.callWith_type1 (thn (ha pos pins s σ H _ I h) fun us s1 hPz=>?_) hs rfl));obtain⟨vs,H1,I1,r1,q1⟩:=hPz;obtain⟨a,e,⟨xs,hq⟩,q⟩:=q1;subst e;cases r1 with
 |cons r rr=>
  cases rr;cases r;obtain⟨its,rv,pt,hz⟩:=I1.tuple hq;obtain⟨⟨c,dct,dt,sl⟩,hl,hc,n,hd⟩:=id pt;replace hc:c=.type "tuple":=hc;replace hd:dt=.seq its.toArray n:=hd;subst hc hd;refine callType_new F.called_enumerate (by decide) (F.typeCall_enumerate_1 _) (F.newCall_enumerate_1 _) (fun obj=>F.args_object_init_2 obj _) F.entry_enumerate_new (yu a its.toArray n dct sl) ⟨hl,?_⟩;have hz1:(s1.heap.push {cls:=.type "tuple_iterator",data:=.fields #[.ref a,.int 0 0]}).objs.size=s1.heap.objs.size+1:=Heap.size_push ..;have he:IsEnum ((s1.heap.push {cls:=.type "tuple_iterator",data:=.fields #[.ref a,.int 0 0]}).push {cls:=.type "enumerate",data:=.fields #[.none,.bool false,.ref s1.heap.objs.size,rawInt 0,.none,.none]}) (s1.heap.objs.size+1) s1.heap.objs.size 0 .none:=by have:=GO (s1.heap.push {cls:=.type "tuple_iterator",data:=.fields #[.ref a,.int 0 0]}) (o:={cls:=.type "enumerate",data:=.fields #[.none,.bool false,.ref s1.heap.objs.size,rawInt 0,.none,.none]}) rfl;rw[hz1]at this;exact this
  show _/\_;rw[hz1];refine⟨⟨_,he,rfl⟩,?_⟩;refine wpAny_pyIter_enum he ?_;refine⟨s1.heap.objs.size+1,[s1.heap.objs.size+1,s1.heap.objs.size],_,_,H1,rfl,I1.kept (t':=s1.toks) (fun b o g=>Gi _ (Gi _ g)),x4 a _ _ (Nat.succ_ne_self _),⟨⟨_,he⟩,⟨_,Gi _ (GO _ rfl),rfl,rfl⟩⟩,fun b hb=>?_,q⟩;have z:b=s1.heap.objs.size+1\/b=s1.heap.objs.size:=by simpa using hb
  rcases z with rfl|rfl
  ·exact I1.fpOk (Nat.le_succ _) (I1.hok.fresh (Nat.le_succ _))
  ·exact I1.fpOk (Gr _) (I1.hok.fresh (Gr _))
end
section
variable{prog:Program}{w:World}{A:Around}{E:Value->Shared->Prop}{s:Shared}
open HT in
theorem wz{t sl:Addr}{items:Array Value}{vl vu:Value}{lo hi:Option Int}{Q:Value->Shared->Prop}(ht:IsTup s.heap t items)(hs:s.heap.IsSliceOf sl vl vu .none)(pl:IsPart vl lo)(pu:IsPart vu hi)
  (hw:sIx items.size 0 lo=0/\sIx items.size items.size hi=items.size) (h:Q (.ref t) s):wpAny (model prog w) A (getItem (.ref t) (.ref sl)) Q E s:=by
 obtain⟨os,hos,hcs,hds⟩:=id hs;have hTs:s.TypeIs (.ref sl) "slice":=⟨os,hos,hcs⟩;unfold getItem
 try with_reducible refine Hr ?_
 first|refine Gg (Gj ?_)|skip
 refine Gg (wpAny_sequenceKey ht.typeIs (by decide) ?_);refine Gg (HV (name:=Str.ofString "__getitem__") ht.typeIs HE (HD HE ht.typeIs entry_tuple_getitem ?_ (args_tuple_getitem _ _)));show wpAny _ _ (Builtin.Tuple.tupleItemsOf (.ref t)>>= _) _ _ s;refine Gg (tupleItemsOf_ ht ?_);refine Gg (wpAny_typeOf hTs ?_);rw[Gz (by decide)];refine Gg (iD hs pl pu ?_);have yes:((((sIx items.size 0 lo:Nat):Int)==0&&(1:Int)==1&&(sIx items.size items.size hi-sIx items.size 0 lo)==items.size)=true):=by rw[hw.1,hw.2];simp
 show wpAny _ _ (if(((sIx items.size 0 lo:Nat):Int)==0&&(1:Int)==1&&(sIx items.size items.size hi-sIx items.size 0 lo)==items.size)=true then _ else _) _ _ s;rw[Gz yes];have ex:∀{B:Around}{R:Bool->Shared->Prop}{E':Value->Shared->Prop},R true s->wpAny (model prog w) B (Builtin.Tuple.tupleIsExact (.ref t)) R E' s:=by
  intro B R E' q;obtain⟨o,ho,hc,n,hd⟩:=id ht;unfold Builtin.Tuple.tupleIsExact
  first
   |refine Gg (wpAny_typeOf ht.typeIs (Gj ?_))
   |refine Gg (wpAny_load ho (Gj ?_))
  first|exact q|(rw[hc];exact q)|simpa using q
 first
  |exact Gg (ex (Gg (wpAny_rule (Gj ⟨_,rfl,Gj h⟩))))
  |exact Gg (ex (Gg (wpAny_rule (Gg (Gj (Gj ⟨_,rfl,Gj h⟩))))))
  |(refine Gg (ex ?_);simp only[if_true];refine Gg (wpAny_rule ?_);first|exact Gj ⟨_,rfl,Gj h⟩|exact Gg (Gj (Gj ⟨_,rfl,Gj h⟩)))
end
section
variable{X:Cx}
noncomputable def E8(K:Frag):R2:=fun x y H Q=>∃a b xs ys,x=.ref a/\y=.ref b/\SqT K H a xs/\SqT K H b ys/\xs.length+ys.length<=sizeLine/\∀r H',ao H H'->SqT K H' r (xs++ys)->Q (.ref r) H'
theorem jV:OpR X (binaryOp .Add) (E8 X.K):=by
 intro pins s σ H x y v u Q I rx ry h;obtain⟨a,b,xs,ys,rfl,rfl,ha,hb,hz,q⟩:=h;by_cases hx:xs=[]
 ·cases rx;cases ry;obtain⟨its,r1,p1,_⟩:=I.tuple ha;obtain⟨its2,r2,p2,_⟩:=I.tuple hb;have e1:its=[]:=r1.nil_iff.mpr hx;obtain⟨⟨c1,d1,t1,l1⟩,o1,k1,n1,z1⟩:=id p1;obtain⟨⟨c2,d2,t2,l2⟩,o2,k2,n2,z2⟩:=id p2;simp only at k1 z1 k2 z2;subst k1 z1 k2 z2;exact concat_meets ⟨_,o1,rfl⟩ ⟨_,o2,rfl⟩ noFill_tuple_add seq_tuple_add PySem.F.slot_tuple_add PySem.F.entry_tuple_add (PySem.F.args_tuple_add_2 _ _) (tuple_addW0 a b its.toArray its2.toArray n1 n2 d1 d2 l1 l2 (by simp[e1]))
   ⟨o1,o2,.ref b,H,I,rfl,q b H (fun _ _ e=>e) (by rw[hx];exact hb)⟩
 ·exact BR pins s σ H _ _ v u Q I rx ry ⟨a,b,xs,ys,rfl,rfl,ha,hb,hx,hz,fun z=>q a H (fun _ _ e=>e) (by rw[z,GY];exact ha),fun _ p hp=>q p _ (ao.upd hp) (SqT.of af)⟩
def FU(K:Frag):V->Option Int->Option Int->Hp->VK->Prop:=fun x lo hi H Q=>∃a xs,x=.ref a/\SqT K H a xs/\∀r H',ao H H'->SqT K H' r (jO xs lo hi)->Q (.ref r) H'
theorem oZ:SlR X (FU X.K):=by
 intro pins s σ H x v vl vu lo hi sl Q I rx hs pl pu h;obtain⟨a,xs,rfl,hx,q⟩:=h;by_cases hw:HT.sIx xs.length 0 lo=0/\HT.sIx xs.length xs.length hi=xs.length
 ·cases rx;obtain⟨its,r,ht,hz⟩:=I.tuple hx;have hlen:its.toArray.size=xs.length:=by rw[Gq];exact r.length.symm
  have e:jO xs lo hi=xs:=by unfold jO;rw[hw.1,hw.2];simp
  exact⟨"tuple",_,HE.lookup,ht.typeIs,wz ht hs pl pu (by rw[hlen];exact hw) ⟨.ref a,H,I,rfl,q a H (fun _ _ e=>e) (by rw[e];exact hx)⟩⟩
 ·exact Dq pins s σ H _ v vl vu lo hi sl Q I rx hs pl pu ⟨a,xs,rfl,hx,hw,fun p hp=>q p _ (ao.upd hp) (SqT.of af)⟩
theorem vj{K:Frag}{a:Addr}{xs:List V}{g:TG}{tb:TS}{D:Ends}{σ:St}{H:Hp}(Pv:Nat->St->Hp->Prop)(h0:Pv 0 σ H)(hl:∀i σ H,i<=xs.length->Pv i σ H->SqT K H a xs)
  (hs:∀i y σ H T,xs[i]?=some y->Pv i σ H->H T=none->g (.ref T) σ (upd H T (.tup [.int (i:Nat),y])) fun σ2 H2=>tb {D with nx:=Pv (i+1),ct:=Pv (i+1),bk:=D.nx} σ2 H2) (hd:∀σ H,Pv xs.length σ H->D.nx σ H):
  ∃W:Nat->Nat->St->Hp->Prop,(∃m,W 0 m σ H)/\∀i m σ H,W i m σ H->
   ((Ite K a).stop i H/\D.nx σ H)\/((Ite K a).go i H/\∃N:St->Hp->Prop,(∀σ' H',N σ' H'->∃m',m'<m/\W (i+1) m' σ' H')/\∀x H',(Ite K a).yld i H x H'->g x σ H' fun σ2 H2=>tb {D with nx:=N,ct:=N,bk:=D.nx} σ2 H2):=by
 refine⟨fun i m σ H=>m=xs.length-i/\i<=xs.length/\Pv i σ H,⟨xs.length,by simp,G1 _,h0⟩,?_⟩;rintro i m σ H ⟨rfl,hi,p⟩;have q:=hl i σ H hi p;by_cases hlt:i<xs.length
 ·refine .inr ⟨⟨xs,xs[i],q,by simp[hlt]⟩,Pv (i+1),fun σ' H' p'=>⟨xs.length-(i+1),by omega,rfl,hlt,p'⟩,fun x H' y=>?_⟩;obtain⟨T,v,hT,rfl,rfl,y⟩:=y;exact hs i v σ H T (y xs q) p hT
 ·have e:i=xs.length:=by omega
  exact .inl ⟨⟨xs,q,e.symm⟩,hd σ H (e▸p)⟩
end
end L2
namespace L2
open PySem PySem.Spec PyProof.Rows LM
noncomputable def wo(n:Int)(c:Col):Col:=c.filter fun r=>decide (aN r≠n)
noncomputable def wM(n:Int)(c:Col):Bool:=c.any fun r=>decide (aN r=n)
theorem veq{a b:Int}:decide (V.int a=V.int b)=true<->a=b:=⟨fun h=>V.int.inj (GU h),fun h=>GN (congrArg V.int h)⟩
theorem vne{a b:Int}:(!decide (V.int a=V.int b))=true<->a≠b:=by rw[Bool.not_eq_true',decide_eq_false_iff_not];exact⟨fun h e=>h (congrArg V.int e),fun h e=>h (V.int.inj e)⟩
theorem mK{α β:Type}(f f':α->β):∀L:List α,(L.flatMap fun p=>[f p,f' p]).length=2*L.length
 | []=>rfl
 |p::L=>by
  have e:((p::L).flatMap fun p=>[f p,f' p]).length=(L.flatMap fun p=>[f p,f' p]).length+2:=by simp
  rw[e,mK f f' L];show _=2*(L.length+1)
  lia
noncomputable def iJ(n:Int)(b:List Key)(c:Col):Col:=(c.map fun r=>if aN r=n then b else r)++(if wM n c=true then[]else[b])
def Fx(n:Int)(c:Col)(i:Nat):Prop:=∃r,c[i]?=some r/\aN r=n/\∀j r',j<i->c[j]?=some r'->aN r'≠n
theorem ph{n:Int}{b:List Key}:∀{c:Col},(∀r∈c,aN r≠n)->(c.map fun r=>if aN r=n then b else r)=c
 | [],_=>rfl
 |r::c,h=>by rw[GC,Gu (h r (Gy ..)),ph fun r' h'=>h r' (Gs _ h')]
theorem nP{n:Int}{b:List Key}{c:Col}(h:∀r∈c,aN r≠n):iJ n b c=c++[b]:=by unfold iJ;rw[ph h,Gu];intro z;obtain⟨r,hr,e⟩:=Ih.mp z;exact h r hr (GU e)
theorem Ab{c:Col}(nd:(c.map aN).Nodup){i:Nat}{r:List Key}(h:c[i]?=some r):c=c.take i++r::c.drop (i+1)/\(∀r'∈c.take i,aN r'≠aN r)/\∀r'∈c.drop (i+1),aN r'≠aN r:=by
 obtain⟨hi,e⟩:=GA.mp h;have sp:c=c.take i++r::c.drop (i+1):=by rw[<-e,List.getElem_cons_drop,List.take_append_drop]
 refine⟨sp,?_⟩;rw[sp,GK,GC]at nd;obtain⟨h1,h2,h3⟩:=List.nodup_append.mp nd;refine⟨fun r' hr' z=>?_,fun r' hr' z=>?_⟩
 ·exact h3 _ (Gm.mpr ⟨r',hr',rfl⟩) _ (Gy ..) z
 ·exact(Hv.mp h2).1 (Gm.mpr ⟨r',hr',z⟩)
theorem Co{n:Int}{b:List Key}{c:Col}(nd:(c.map aN).Nodup){i:Nat}(h:Fx n c i):iJ n b c=c.take i++[b]++c.drop (i+1):=by
 obtain⟨r,hr,en,_⟩:=h;obtain⟨sp,h1,h2⟩:=Ab nd hr;rw[en]at h1 h2;have an:wM n c=true:=Ih.mpr ⟨r,Gp hr,GN en⟩;unfold iJ;rw[Gz an,GY]
 conv=>lhs;rw[sp]
 rw[GK,GC,Gz en,ph h1,ph h2,HG];rfl
theorem oY{n:Int}(c:Col)(r:List Key):wo n (c++[r])=wo n c++(if aN r=n then[]else[r]):=by
 unfold wo;rw[Hy];congr 1;by_cases h:aN r=n
 ·rw[Gz h];simp[h]
 ·rw[Gu h];simp[h]
theorem zh(n:Int)(c:Col):(wo n c).length<=c.length:=HS _ _
theorem vg{g:Nat->Option Col}{R:cw}(h:bq g R)(m:Nat)(f f':Col->Col):xW (fun i=>if m.testBit i=true then(g i).map f else(g i).map f') (R.flatMap fun p=>[(p.1&&& m,f p.2),(dif p.1 m,f' p.2)]):=by
 refine⟨fun p hp=>?_,fun p hp i hi b=>?_,fun i c hi e=>?_⟩
 ·obtain⟨q,hq,hp⟩:=List.mem_flatMap.mp hp;simp only[GH,List.not_mem_nil,or_false]at hp;rcases hp with rfl|rfl
  ·exact Nat.lt_of_le_of_lt Nat.and_le_left (h.ok q hq).1
  ·exact nQ (h.ok q hq).1
 ·obtain⟨q,hq,hp⟩:=List.mem_flatMap.mp hp;simp only[GH,List.not_mem_nil,or_false]at hp;show(if m.testBit i=true then(g i).map f else(g i).map f')=_;rcases hp with rfl|rfl
  ·have b':(q.1&&& m).testBit i=true:=b;rw[Hu,HY]at b';rw[Gz b'.2,((h.ok q hq).2.2 i hi).mp b'.1];rfl
  ·have b':(dif q.1 m).testBit i=true:=b;rw[eO,HY]at b';have n2:¬m.testBit i=true:=by
    have:=b'.2;cases z:m.testBit i with
    |false=>simp
    |true=>rw[z]at this;cases this
   rw[Gu n2,((h.ok q hq).2.2 i hi).mp b'.1];rfl
 ·have e':(if m.testBit i=true then(g i).map f else(g i).map f')=some c:=e;cases w:g i with
  |none=>
   rw[w]at e';by_cases z:m.testBit i=true
   ·rw[Gz z]at e';cases e'
   ·rw[Gu z]at e';cases e'
  |some c'=>
   obtain⟨q,hq,e1,e2⟩:=h.grd.has i c' hi w;rw[w]at e';by_cases z:m.testBit i=true
   ·rw[Gz z]at e';cases e';refine⟨(q.1&&& m,f q.2),List.mem_flatMap.mpr ⟨q,hq,by simp⟩,congrArg f e1,?_⟩;show(q.1&&& m).testBit i=true;rw[Hu,e2,z];rfl
   ·rw[Gu z]at e';cases e';refine⟨(dif q.1 m,f' q.2),List.mem_flatMap.mpr ⟨q,hq,by simp⟩,congrArg f' e1,?_⟩;show(dif q.1 m).testBit i=true;rw[eO,e2];simp[z]
theorem bX.bur{K:Frag}{H:Hp}{b:Addr}{c:Col}(h:bX K H b c):∃xs,SqT K H b xs/\Paired (bM K H) xs c:=by
 obtain⟨lay,xs,hx,pr⟩:=h;refine⟨xs,hx,?_⟩;clear hx
 induction pr with
 |nil=>exact .nil
 |cons a _ ih=>obtain⟨q,rfl,h2⟩:=a;exact .cons ⟨lay _ (Gy ..),q,rfl,h2⟩ (ih fun r hr=>lay r (Gs _ hr))
def GoodC(c:Col):Prop:=(∀r∈c,eE r)/\(c.map aN).Nodup/\c.length<=20
end L2
namespace L2
open PySem PySem.Spec PyProof.Rows
noncomputable def bh(ts:List Int):Col->Nat
 | []=>0
 |r::c=>if bh ts c≠0 then bh ts c+1 else if aN r∈ts then 1 else 0
structure uv(ts:List Int)(c:Col)(j:Nat):Prop where
 le:j<=c.length
 at':j≠0->∃r,c[j-1]?=some r/\aN r∈ts
 out:∀i r,j<=i->c[i]?=some r->¬aN r∈ts
theorem pk(ts:List Int):∀c:Col,uv ts c (bh ts c)
 | []=>⟨Gr _,fun h=>absurd rfl h,fun i r _ h=>by simp at h⟩
 |r::c=>by
  have ih:=pk ts c;by_cases h:bh ts c≠0
  ·have e:bh ts (r::c)=bh ts c+1:=by
    show(if bh ts c≠0 then bh ts c+1 else _)=_;rw[Gz h]
   rw[e];refine⟨by rw[GV];have:=ih.le;lia,fun _=>?_,fun i r' hi hr=>?_⟩
   ·obtain⟨r',h1,h2⟩:=ih.at' h;refine⟨r',?_,h2⟩;rw[show bh ts c+1-1=(bh ts c-1)+1 by lia,HF];exact h1
   ·obtain⟨i',rfl⟩:∃i',i=i'+1:=⟨i-1,by lia⟩;rw[HF]at hr;exact ih.out i' r' (by lia) hr
  ·have h0:bh ts c=0:=(by lia);by_cases m:aN r∈ts
   ·have e:bh ts (r::c)=1:=by
     show(if bh ts c≠0 then bh ts c+1 else if aN r∈ts then 1 else 0)=_;rw[Gu h,Gz m]
    rw[e];refine⟨by rw[GV];lia,fun _=>⟨r,rfl,m⟩,fun i r' hi hr=>?_⟩;obtain⟨i',rfl⟩:∃i',i=i'+1:=⟨i-1,by lia⟩;rw[HF]at hr;exact ih.out i' r' (by lia) hr
   ·have e:bh ts (r::c)=0:=by
     show(if bh ts c≠0 then bh ts c+1 else if aN r∈ts then 1 else 0)=_;rw[Gu h,Gu m]
    rw[e];refine⟨G1 _,fun z=>absurd rfl z,fun i r' hi hr=>?_⟩;cases i with
    |zero=>have:r=r':=(by simpa using hr);rw[<-this];exact m
    |succ i'=>rw[HF]at hr;exact ih.out i' r' (by lia) hr
theorem uv.uniq{ts:List Int}{c:Col}{i j:Nat}(h:uv ts c i)(k:uv ts c j):i=j:=by
 rcases Nat.lt_trichotomy i j with z|z|z
 ·obtain⟨r,h1,h2⟩:=k.at' (by lia);exact absurd h2 (h.out _ r (by omega) h1)
 ·exact z
 ·obtain⟨r,h1,h2⟩:=h.at' (by lia);exact absurd h2 (k.out _ r (by lia) h1)
noncomputable def yV(K:Frag)(H:Hp)(v:V):Option (List Int)->Prop
 |none=>v=.non
 |some ts=>∃t,v=.ref t/\SqT K H t (ts.map V.int)
theorem yV.same{K:Frag}{H H':Hp}{v:V}{tl:Option (List Int)}(s:ao H H')(h:yV K H v tl):yV K H' v tl:=by
 cases tl with
 |none=>exact h
 |some ts=>obtain⟨t,e,h⟩:=h;exact⟨t,e,s.tup h⟩
noncomputable def bhO(tl:Option (List Int))(c:Col):Nat:=match tl with
 |none=>c.length
 |some ts=>bh ts c
theorem Et(tl:Option (List Int))(c:Col):bhO tl c<=c.length:=by
 cases tl with
 |none=>exact Gr _
 |some ts=>exact(pk ts c).le
noncomputable def qm(tl:Option (List Int))(b:List Key)(c:Col):Col:=c.take (bhO tl c)++[b]++c.drop (bhO tl c)
theorem rZ(b:List Key)(c:Col):qm none b c=c++[b]:=by unfold qm bhO;rw[GL,List.drop_length,GY]
theorem qr(x:Int):∀(L:List Int),inV (.int x) (L.map V.int)=decide (x∈L)
 | []=>by rw[GZ (by simp)];rfl
 |y::L=>by have ih:=qr x L;have e:inV (.int x) ((y::L).map V.int)=((y==x)||inV (.int x) (L.map V.int)):=rfl;rw[e,ih,Bool.eq_iff_iff];simp only[Bool.or_eq_true,beq_iff_eq,Hj,GH];exact⟨fun h=>h.imp Eq.symm id,fun h=>h.imp Eq.symm id⟩
theorem nO:∀L:List Int,(L.map V.int).all kI=true
 | []=>rfl
 |_::L=>by show(true&&(L.map V.int).all kI)=true;rw[nO L];rfl
theorem Fi(ts:List Int):uv ts [] 0:=pk ts []
theorem Ca{ts:List Int}{c:Col}{r:List Key}(h:aN r∈ts):uv ts (c++[r]) (c.length+1):=by
 refine⟨by simp,fun _=>⟨r,by simp,h⟩,fun i r' hi hr=>?_⟩;have:=(GA.mp hr).1;rw[Gn]at this;have:c.length+1<=i:=hi;simp at*
 lia
theorem Aq{ts:List Int}{c:Col}{r:List Key}{j:Nat}(k:uv ts c j)(h:¬aN r∈ts):uv ts (c++[r]) j:=by
 have le:=k.le;refine⟨by rw[Gn];lia,fun h0=>?_,fun i r' hi hr=>?_⟩
 ·obtain⟨r',h1,h2⟩:=k.at' h0;exact⟨r',by rw[Ia (by lia)];exact h1,h2⟩
 ·rcases Nat.lt_or_ge i c.length with z|z
  ·rw[Ia z]at hr;exact k.out i r' hi hr
  ·have hl:=(GA.mp hr).1;rw[Gn]at hl;have e:i=c.length:=by
    have:i<c.length+1:=hl
    lia
   subst e;rw[List.getElem?_append_right (Gr _),Nat.sub_self]at hr;have:r=r':=(by simpa using hr);rw[<-this];exact h
structure DfD(P:Program)(w:World)(K:Frag)(mg:Str->Option Value)(base:Heap)(k:Nat)(x:Str)(ps:List Str)(sp:Sp)(ds:List Value):Prop where
 ex:∃f fd,ir P w K mg base CX0 k f fd ps sp/\Binds K fd ps []/\Binds K fd ps ds/\mg x=some (.ref f)/\keepIn K (.ref f)=true
theorem DfD.df{P:Program}{w:World}{K:Frag}{mg:Str->Option Value}{base:Heap}{k:Nat}{x:Str}{ps:List Str}{sp:Sp}{ds:List Value}(D:DfD P w K mg base k x ps sp ds):Df P w K mg base k x ps sp:=by obtain⟨f,fd,F,b,_,m,kp⟩:=D.ex;exact⟨f,fd,F,b,m,kp⟩
structure TxD(K:Frag)(mg:Str->Option Value)(x:Str)(st:Stmt)(ps:List Str)(ds:List Value):Prop where
 ex:∃(f:Addr)(oc:Value)(od:Option Addr)(osl:Array (Option Value))(dV kV doc pm:Value)(an:Option Addr)(cdv ct:Value),
  K.lookup f=some ⟨oc,od,.func (fnOf x x (bG st) (bj st) (ak st) dV kV doc pm an cdv ct),osl⟩/\codeIn K cdv x=true/\keepIn K (.ref f)=true/\
  Binds K (fnOf x x (bG st) (bj st) (ak st) dV kV doc pm an cdv ct) ps []/\Binds K (fnOf x x (bG st) (bj st) (ak st) dV kV doc pm an cdv ct) ps ds/\mg x=some (.ref f)
theorem TxD.dfD{P:Program}{w:World}{K:Frag}{mg:Str->Option Value}{base:Heap}{x:Str}{st:Stmt}{N ps:List Str}{k:Nat}{sp:Sp}{ds:List Value}(T:TxD K mg x st ps ds)(S:aA N ps (ak st))
  (len:∀vs H Q E,sp vs H Q E->vs.length=ps.length)
  (hbody:∀(f:Addr)(cdv:Value)(A:Around)(outer:List Env)(s:Shared)(H:Hp)(vs:List V)(Q:VK)(E:XK),cy k (A.deeper (envOfC x (ak st) s.heap.objs.size f cdv))->sp vs H Q E->
   ∃t,PSs (gZ CX0 P w K mg base N x (ak st) f cdv A outer s H E).nox (bj st) t/\t {nx:=fun _ H'=>Q .non H',rt:=Q} (start N vs) H):DfD P w K mg base (k+1) x ps sp ds:=by
 obtain⟨f,oc,od,osl,dV,kV,doc,pm,an,cdv,ct,l,c,kp,b1,b2,hm⟩:=T.ex;refine⟨f,_,vm l c S len fun A outer s H vs Q E hr hsp=>?_,b1,b2,hm,kp⟩;obtain⟨t,h,q⟩:=hbody f cdv A outer s H vs Q E hr hsp;exact⟨t,h.nox,q⟩
theorem De{K:Frag}{h:Heap}{mg:Str->Option Value}{x:Str}{st:Stmt}{ps:List Str}{ds:List Value}{f:Addr}{oc:Value}{od an:Option Addr}{osl:Array (Option Value)}{dV kV doc pm cdv ct:Value}(X:K.In h)(G:h.Ns mainGlobals mg)
  (a:nsIn K mainGlobals x=some (some (.ref f)))
  (l:K.lookup f=some ⟨oc,od,.func (fnOf x x (bG st) (bj st) (ak st) dV kV doc pm an cdv ct),osl⟩)
  (c:codeIn K cdv x=true) (k:keepIn K (.ref f)=true)
  (b1:∀us:List Value,us.length=ps.length->∀S,PySem.W.peek K S (bindArgs (fnOf x x (bG st) (bj st) (ak st) dV kV doc pm an cdv ct) ⟨us,[]⟩)=some (ps.zip us))
  (b2:∀us:List Value,(us++ds).length=ps.length->∀S,PySem.W.peek K S (bindArgs (fnOf x x (bG st) (bj st) (ak st) dV kV doc pm an cdv ct) ⟨us,[]⟩)=some (ps.zip (us++ds))):TxD K mg x st ps ds:=by
 refine⟨f,oc,od,osl,dV,kV,doc,pm,an,cdv,ct,l,c,k,fun s us X' hl=>?_,fun s us X' hl=>PySem.W.kp_binds X' (b2 us hl),PySem.W.mg_of X G a⟩;rw[GY]at hl ⊢;exact PySem.W.kp_binds X' (b1 us hl)
section
variable{X:Cx}
theorem DC{j k:Nat}{x:Str}{ps:List Str}{sp:Sp}{ds:List Value}{dvs:List V}{p pos:Pos}{e:Expr}{es:List Expr}{t:TA}(D:DfD X.prog X.w X.K X.mg X.base j x ps sp ds)(hr:cy k X.A)(hd:Vals dvs ds)(ha:PA X (e::es) t)(hg:Gl X x:=by rfl)(hj:j<=k:=by decide)
  (hdb:(x==("__debug__":Str))=false:=by decide) (he:starEach (e::es) X.env=(false,eval e X.env)::starEach es X.env:=by rfl) (hpl:(backTo pos (starEach es X.env)).any (·.1)=false:=by rfl):
  PE X (.Call (.Name x p) (e::es) [] pos) (lX sp dvs E0 t):=by
 obtain⟨f,fd,F,_,b,hm,kp⟩:=D.ex;exact tH (ds:=ds) (dvs:=dvs) (E:=E0) (p:=p) (pos:=pos) F (hr.mono hj) hg hm kp b hd ji ha hdb he hpl
end
theorem three{ps:List Str}{d:Value}(us:List Value)(hl:(us++[d]).length=ps.length)(h4:ps.length=4:=by rfl):∃a b c,us=[a,b,c]:=by
 rw[h4,Gn]at hl
 match us,hl with
 | [a,b,c],_=>exact⟨a,b,c,rfl⟩
 | [],hl=>cases hl
 | [_],hl=>cases hl
 | [_,_],hl=>cases hl
 |_::_::_::_::us,hl=>simp at hl
theorem sy{n:Int}{c:Col}:wM n c=true<->∃r∈c,aN r=n:=by unfold wM;rw[Ih];exact⟨fun⟨r,h,e⟩=>⟨r,h,GU e⟩,fun⟨r,h,e⟩=>⟨r,h,GN e⟩⟩
section
variable{K:Frag}{H H':Hp}
theorem Bi{kvs:List (Key×V)}{k:Key}{v:V}(h:fo kvs k=some v):∃kv∈kvs,kv.1=k:=by
 unfold fo at h;cases e:kvs.find? (fun kv=>decide (kv.1=k))with
 |none=>rw[e]at h;cases h
 |some kv=>exact⟨kv,List.mem_of_find?_eq_some e,by simpa using List.find?_some e⟩
end
end L2
namespace L2
open PySem PyProof.Rows
noncomputable abbrev SM(α:Type):=StateT SortSt Sem α
end L2
namespace LT
open PySem PyProof.Rows L2
class KN where
 kn:Keyed->Int
 isK:Keyed->Prop
 kd:type_of% oneType'
class vE(prog:Program)(w:World)(A:Around)(E:Value->Shared->Prop)(s:Shared)[KN]:Prop where
 lt:∀{st:SortSt}{x y:Keyed}{Q:Option Bool->SortSt->Prop},kindOf st=KN.kd->KN.isK x->KN.isK y->Q (some (decide (KN.kn x<KN.kn y))) st->wpS (model prog w) A E s (lt' x y) Q st
variable[KN]
noncomputable def kn(p:Keyed):Int:=KN.kn p
def IsK(p:Keyed):Prop:=KN.isK p
noncomputable abbrev kd0:type_of% oneType':=KN.kd
noncomputable def K(xs:Array Keyed)(i:Nat):Int:=match xs[i]? with
 |some p=>kn p
 |none=>0
def SortedTo(xs:Array Keyed)(k:Nat):Prop:=∀i j,i<=j->j<k->K xs i<=K xs j
def qG(xs:Array Keyed):Prop:=∀p,p∈xs.toList->IsK p
theorem K_congr{xs ys:Array Keyed}{i j:Nat}(h:xs[i]?=ys[j]?):K xs i=K ys j:=by unfold K;rw[h]
theorem K_bubble{xs:Array Keyed}{src d:Nat}(hs:src<xs.size)(hd:d<=src)(k:Nat):K (bubble xs src d) k=if k=src-d then K xs src else if src-d<k/\k<=src then K xs (k-1)else K xs k:=by
 have e:=getElem?_bubble hs d hd k;split
 ·rename_i h;rw[Gz h]at e;exact K_congr e
 ·rename_i h;rw[Gu h]at e;split
  ·rename_i h2;rw[Gz h2]at e;exact K_congr e
  ·rename_i h2;rw[Gu h2]at e;exact K_congr e
theorem K_mirror{xs:Array Keyed}{i j:Nat}(hj:j<=xs.size)(k:Nat):K (mirror xs i j ((j-i) / 2)) k=if i<=k/\k<j then K xs (i+j-1-k)else K xs k:=by
 have e:=getElem?_mirror_all (i:=i) hj k;split
 ·rename_i h;rw[Gz h]at e;exact K_congr e
 ·rename_i h;rw[Gu h]at e;exact K_congr e
theorem K_mirror_equal{xs:Array Keyed}{i j:Nat}(hj:j<=xs.size)(heq:∀k,i<=k->k<j->K xs k=K xs (j-1))(k:Nat):K (mirror xs i j ((j-i) / 2)) k=K xs k:=by
 rw[K_mirror hj];split
 ·rw[heq _ (by omega) (by omega),heq k (by lia) (by lia)]
 ·rfl
section
variable{prog:Program}{w:World}{A:Around}{E:Value->Shared->Prop}{s:Shared}[vE prog w A E s]
theorem Be{st:SortSt}{x y:Keyed}{Q:Option Bool->SortSt->Prop}(hk:kindOf st=kd0)(hx:IsK x)(hy:IsK y)(h:Q (some (decide (kn x<kn y))) st):wpS (model prog w) A E s (lt' x y) Q st:=vE.lt hk hx hy h
end
end LT
namespace LT
open PySem PyProof.Rows L2
variable[KN]
noncomputable abbrev setG(z:SortSt)(g:Nat):SortSt:=SortSt.mk' (kindOf z) (arrOf z) (pendingOf z) g (failedOf z)
abbrev So(a:List Keyed):Prop:=a.Pairwise fun x y=>kn x<=kn y
structure SA(a₀:Array Keyed)(z:SortSt)(lo:Nat)(st:SortSt):Prop where
 perm:(arrOf st).Perm a₀
 kind:kindOf st=kd0
 failed:failedOf st=none
 pend:pendingOf st=pendingOf z
 keep:∀k,k<lo->(arrOf st)[k]?=(arrOf z)[k]?
theorem SA.size{a₀:Array Keyed}{z:SortSt}{lo:Nat}{st:SortSt}(h:SA a₀ z lo st):(arrOf st).size=a₀.size:=h.perm.size_eq
theorem SA.at{a₀:Array Keyed}{z:SortSt}{lo:Nat}{st:SortSt}(h:SA a₀ z lo st)(h0:qG a₀){i:Nat}(hi:i<a₀.size):∃p,(arrOf st)[i]?=some p/\IsK p/\kn p=K (arrOf st) i:=by
 have hi':i<(arrOf st).size:=by rw[h.size];exact hi
 have hm:(arrOf st)[i]∈a₀.toList:=(Array.perm_iff_toList_perm.mp h.perm).mem_iff.mp (by simp);have e:(arrOf st)[i]?=some (arrOf st)[i]:=getElem?_pos _ i hi';refine⟨_,e,h0 _ hm,?_⟩;unfold K;rw[e]
def lQ(xs:Array Keyed)(lo n:Nat):Prop:=∀i j,i<=j->j<n->K xs (lo+i)<=K xs (lo+j)
def wQ(xs:Array Keyed)(lo n:Nat):Prop:=∀i j,i<=j->j<n->K xs (lo+j)<=K xs (lo+i)
theorem SA.mir{a₀:Array Keyed}{z:SortSt}{lo:Nat}{st:SortSt}(h:SA a₀ z lo st){i j d:Nat}(hi:lo<=i)(hj:j<=a₀.size)(hd:2*d<=j-i):SA a₀ z lo (setArr st (mirror (arrOf st) i j d)):=by refine⟨(mirror_perm _ _ _ _).trans h.perm,h.kind,h.failed,h.pend,fun k hk=>?_⟩;show(mirror (arrOf st) i j d)[k]?=_;rw[getElem?_mirror (by rw[h.size];exact hj) d hd,Gu (by omega)];exact h.keep k hk
section
variable{prog:Program}{w:World}{A:Around}{E:Value->Shared->Prop}{s:Shared}[vE prog w A E s]{a₀:Array Keyed}{z:SortSt}{lo:Nat}
theorem lU{st:SortSt}{i j:Nat}{Q:Option Bool->SortSt->Prop}(hB:SA a₀ z lo st)(h0:qG a₀)(hi:i<a₀.size)(hj:j<a₀.size)
  (h:Q (some (decide (K (arrOf st) i<K (arrOf st) j))) st):wpS (model prog w) A E s (ltAt' i j) Q st:=by
 obtain⟨p,e1,k1,n1⟩:=hB.at h0 hi;obtain⟨q,e2,k2,n2⟩:=hB.at h0 hj;rw[ltAt'_eq];refine Hi (wpS_get ?_);show wpS _ _ _ _ (do let x <-elem' (arrOf st) i;let y <-elem' (arrOf st) j;lt' x y) Q st;rw[elem'_eq,elem'_eq,e1,e2];refine Hi (HL (Hi (HL ?_)));refine Be hB.kind k1 k2 ?_;rw[n1,n2];exact h
theorem sF{st:SortSt}{x0 nrem:Nat}{f:Nat->Option (Option Nat)×Nat->SM (ForInStep (Option (Option Nat)×Nat))}{k:Nat->Option Bool->SM (ForInStep (Option (Option Nat)×Nat))}{Q:Option (Option Nat)×Nat->SortSt->Prop}
  (hf:∀x n,f x (none,n)=ltAt' (lo+n) (lo+n-1)>>= k n) (hk:∀n b,k n (some b)=if b=true then pure (ForInStep.done (none,n))else pure (ForInStep.yield (none,n+1)))
  (h0:qG a₀) (hB:SA a₀ z lo st) (hn:lo+nrem<=a₀.size) (h1:1<=x0) (h2:x0<=nrem) (hs:lQ (arrOf st) lo x0)
  (h:∀n,x0<=n->n<=nrem->lQ (arrOf st) lo n->(n=nrem\/K (arrOf st) (lo+n)<K (arrOf st) (lo+n-1))->Q (none,n) st):wpS (model prog w) A E s (forIn [x0:nrem] (none,x0) f) Q st:=by
 refine wpS_forRange (I:=fun x c st'=>st'=st/\c=(none,x)/\lQ (arrOf st) lo x) ?step ?fin ⟨rfl,rfl,hs⟩
 case fin=>rintro c st' ⟨rfl,rfl,hs'⟩;rw[show max x0 nrem=nrem by omega]at hs' ⊢;exact h nrem h2 (Gr _) hs' (.inl rfl)
 case step=>
  rintro x c st' hax hxn ⟨rfl,rfl,hs'⟩;rw[hf];refine Hi (lU hB h0 (by lia) (by lia) ?_);rw[hk];by_cases hless:K (arrOf st') (lo+x)<K (arrOf st') (lo+x-1)
  ·rw[GN hless,Gz rfl];exact HL (h x hax (by lia) hs' (.inr hless))
  ·rw[GZ hless,Gu (by decide)];refine HL ⟨rfl,rfl,fun i j hij hj=>?_⟩;by_cases hjx:j<x
   ·exact hs' i j hij hjx
   ·have hj':j=x:=(by lia);subst hj';by_cases hi':i=j
    ·subst hi';exact Int.le_refl _
    ·have z1:=hs' i (j-1) (by lia) (by lia);rw[show lo+(j-1)=lo+j-1 by lia]at z1;exact Int.le_trans z1 (Int.not_lt.mp hless)
theorem Bf{st:SortSt}{nrem:Nat}{Q:Option Nat->SortSt->Prop}(h0:qG a₀)(hB:SA a₀ z lo st)(hn:lo+nrem<=a₀.size)(h1:1<=nrem)
  (h:∀m st',SA a₀ z lo st'->1<=m->m<=nrem->lQ (arrOf st') lo m->Q (some m) st'):wpS (model prog w) A E s (countRun' lo nrem) Q st:=by
 rw[countRun'_eq];have one:lQ (arrOf st) lo 1:=fun i j hij hj=>by
  have e:i=j:=by lia
  subst e;exact Int.le_refl _
 refine Hi (sF (fun _ _=>rfl) (fun _ _=>rfl) h0 hB hn (Gr 1) h1 one fun n n1 n2 sn hor=>?_);dsimp only;by_cases c1:(n==nrem)=true
 ·rw[Gz c1];exact HL (h n st hB n1 n2 sn)
 rw[Gu c1];have c1':¬n=nrem:=by simpa using c1
 have hlt:=hor.resolve_left c1';have n1r:n+1<=nrem:=by lia
 refine'(fun(tail:∀stD:SortSt,SA a₀ z lo stD->wQ (arrOf stD) lo (n+1)->wpS (model prog w) A E s _ Q stD)=>?G) ?T
 case G=>
  by_cases hgt:n>1
  ·rw[Gz hgt];refine Hi (lU hB h0 (by lia) (by omega) ?_);dsimp only;by_cases hrose:K (arrOf st) lo<K (arrOf st) (lo+n-1)
   ·rw[GN hrose,Gz rfl];exact HL (h n st hB n1 n2 sn)
   rw[GZ hrose,Gu (by decide)];have hall:∀k,lo<=k->k<lo+n->K (arrOf st) k=K (arrOf st) (lo+n-1):=fun k g1 g2=>by
    have a1:=sn 0 (k-lo) (by lia) (by omega);have a2:=sn (k-lo) (n-1) (by lia) (by lia);rw[show lo+0=lo by lia,show lo+(k-lo)=k by lia]at a1;rw[show lo+(k-lo)=k by omega,show lo+(n-1)=lo+n-1 by lia]at a2
    lia
   refine Hi (wpS_reverse ?_);have hD:=hB.mir (i:=lo) (j:=lo+n) (d:=(lo+n-lo) / 2) (Gr _) (by lia) (by lia);have sd:wQ (arrOf (setArr st (mirror (arrOf st) lo (lo+n) ((lo+n-lo) / 2)))) lo (n+1):=fun i j hij hj=>by
    show K (mirror _ _ _ _) _<=K (mirror _ _ _ _) _;rw[K_mirror_equal (by rw[hB.size];omega) hall,K_mirror_equal (by rw[hB.size];omega) hall];by_cases hjn:j<n
    ·rw[hall (lo+i) (by lia) (by lia),hall (lo+j) (by omega) (by lia)];exact Int.le_refl _
    ·have hj':j=n:=(by lia);subst hj';by_cases hi':i=j
     ·subst hi';exact Int.le_refl _
     ·rw[hall (lo+i) (by omega) (by lia)];exact Int.le_of_lt hlt
   generalize (setArr st (mirror (arrOf st) lo (lo+n) ((lo+n-lo) / 2)))=stD at hD sd ⊢;exact tail _ hD sd
  ·rw[Gu hgt];have e1:n=1:=(by lia);have hD:=hB;have sd:wQ (arrOf st) lo (n+1):=fun i j hij hj=>by
    by_cases hi':i=j
    ·subst hi';exact Int.le_refl _
    ·have hi0:i=0:=(by lia);have hj1:j=1:=(by lia);subst hi0;subst hj1;subst e1;exact Int.le_of_lt hlt
   generalize st=stD at hD sd ⊢;exact tail _ hD sd
 case T=>
  intro stD hD sd;refine Hi (wpS_lift (wpAny_rule ⟨rfl,?_⟩));refine Hi (wpS_mono (wpS_forRange (I:=fun x c st'=>∃neq,c=(none,x,neq)/\SA a₀ z lo st'/\wQ (arrOf st') lo x/\neq+1<=x/\∀i,x-(neq+1)<=i->i<x->K (arrOf st') (lo+i)=K (arrOf st') (lo+x-1)) (Q:=fun c st'=>∃m neq,c=(none,m,neq)/\n+1<=m/\m<=nrem/\SA a₀ z lo st'/\wQ (arrOf st') lo m/\neq+1<=m/\∀i,m-(neq+1)<=i->i<m->K (arrOf st') (lo+i)=K (arrOf st') (lo+m-1)) ?dstep ?dfin ⟨0,rfl,hD,sd,by lia,fun i g1 g2=>by congr 1;lia⟩) ?dpost)
  case dfin=>rintro c st' ⟨neq,rfl,b1,b2,b3,b4⟩;rw[show max (n+1) nrem=nrem by omega]at b2 b3 b4 ⊢;exact⟨nrem,neq,rfl,by omega,Gr _,b1,b2,b3,b4⟩
  case dstep=>
   rintro x c st' hax hxn ⟨neq,rfl,b1,b2,b3,b4⟩;dsimp only;refine Hi (lU b1 h0 (by lia) (by lia) ?_);dsimp only;have heq:∀k,lo+x-(neq+1)<=k->k<lo+x->K (arrOf st') k=K (arrOf st') (lo+x-1):=fun k g1 g2=>by have:=b4 (k-lo) (by omega) (by lia);rw[show lo+(k-lo)=k by lia]at this;exact this
   by_cases hless:K (arrOf st') (lo+x)<K (arrOf st') (lo+x-1)
   ·rw[GN hless,Gz rfl];have step1:∀xs:Array Keyed,(∀k,K xs k=K (arrOf st') k)->wQ xs lo (x+1):=by
     intro xs hk i j hij hj;rw[hk,hk];by_cases hjx:j<x
     ·exact b2 i j hij hjx
     ·have hj':j=x:=(by omega);subst hj';by_cases hi':i=j
      ·subst hi';exact Int.le_refl _
      ·have z1:=b2 i (j-1) (by lia) (by lia);rw[show lo+(j-1)=lo+j-1 by lia]at z1;exact Int.le_trans (Int.le_of_lt hless) z1
    by_cases hneq:neq>0
    ·rw[Gz hneq];refine Hi (wpS_reverse (HL ⟨0,rfl,b1.mir (by lia) (by lia) (by lia),step1 _ (K_mirror_equal (by rw[b1.size];omega) heq),by omega,fun i g1 g2=>by congr 1;lia⟩))
    ·rw[Gu hneq];exact HL ⟨0,rfl,b1,step1 _ (fun _=>rfl),by omega,fun i g1 g2=>by congr 1;lia⟩
   ·rw[GZ hless,Gu (by decide)];refine Hi (lU b1 h0 (by lia) (by omega) ?_);dsimp only;by_cases hlarger:K (arrOf st') (lo+x-1)<K (arrOf st') (lo+x)
    ·rw[GN hlarger,Gz rfl];exact HL ⟨x,neq,rfl,hax,by lia,b1,b2,b3,b4⟩
    ·rw[GZ hlarger,Gu (by decide)];have heqx:K (arrOf st') (lo+x)=K (arrOf st') (lo+x-1):=(by lia);refine HL ⟨neq+1,rfl,b1,fun i j hij hj=>?_,by lia,fun i g1 g2=>?_⟩
     ·by_cases hjx:j<x
      ·exact b2 i j hij hjx
      ·have hj':j=x:=(by omega);subst hj';by_cases hi':i=j
       ·subst hi';exact Int.le_refl _
       ·have z1:=b2 i (j-1) (by omega) (by omega);rw[show lo+(j-1)=lo+j-1 by omega]at z1;rw[heqx];exact z1
     ·rw[show lo+(x+1)-1=lo+x by lia];by_cases hix:i=x
      ·subst hix;rfl
      ·rw[heqx];exact b4 i (by lia) (by lia)
  case dpost=>
   rintro c st3 ⟨m,neq,rfl,m1,m2,b1,b2,b3,b4⟩;dsimp only;have heq:∀k,lo+m-(neq+1)<=k->k<lo+m->K (arrOf st3) k=K (arrOf st3) (lo+m-1):=fun k g1 g2=>by have:=b4 (k-lo) (by omega) (by omega);rw[show lo+(k-lo)=k by omega]at this;exact this
   by_cases hneq:neq>0
   ·rw[Gz hneq];refine Hi (wpS_reverse ?_);have hD4:=b1.mir (i:=lo+m-(neq+1)) (j:=lo+m) (d:=(lo+m-(lo+m-(neq+1))) / 2) (by lia) (by lia) (by lia);have sd4:wQ (arrOf (setArr st3 (mirror (arrOf st3) (lo+m-(neq+1)) (lo+m) ((lo+m-(lo+m-(neq+1))) / 2)))) lo m:=fun i j hij hj=>by
     show K (mirror _ _ _ _) _<=K (mirror _ _ _ _) _;rw[K_mirror_equal (by rw[b1.size];omega) heq,K_mirror_equal (by rw[b1.size];omega) heq];exact b2 i j hij hj
    generalize (setArr st3 (mirror (arrOf st3) (lo+m-(neq+1)) (lo+m) ((lo+m-(lo+m-(neq+1))) / 2)))=st4 at hD4 sd4 ⊢;have hD5:=hD4.mir (i:=lo) (j:=lo+m) (d:=(lo+m-lo) / 2) (Gr _) (by omega) (by lia);refine Hi (wpS_reverse ?_);have up5:lQ (mirror (arrOf st4) lo (lo+m) ((lo+m-lo) / 2)) lo m:=fun i j hij hj=>by rw[K_mirror (by rw[hD4.size];omega),K_mirror (by rw[hD4.size];omega),Gz (by lia),Gz (by lia)];have z1:=sd4 (m-1-j) (m-1-i) (by omega) (by omega);rw[show lo+(lo+m)-1-(lo+i)=lo+(m-1-i) by lia,show lo+(lo+m)-1-(lo+j)=lo+(m-1-j) by lia];exact z1
    refine Hi (sF (fun _ _=>rfl) (fun _ _=>rfl) h0 hD5 hn (by lia) m2 up5 fun n5 q1 q2 q3 _=>?_);exact HL (h n5 _ hD5 (by lia) q2 q3)
   ·rw[Gu hneq];have hD4:=b1;have sd4:=b2;generalize st3=st4 at hD4 sd4 ⊢;have hD5:=hD4.mir (i:=lo) (j:=lo+m) (d:=(lo+m-lo) / 2) (Gr _) (by omega) (by omega);refine Hi (wpS_reverse ?_);have up5:lQ (mirror (arrOf st4) lo (lo+m) ((lo+m-lo) / 2)) lo m:=fun i j hij hj=>by
     rw[K_mirror (by rw[hD4.size];omega),K_mirror (by rw[hD4.size];omega),Gz (by lia),Gz (by lia)];have z1:=sd4 (m-1-j) (m-1-i) (by omega) (by omega);rw[show lo+(lo+m)-1-(lo+i)=lo+(m-1-i) by omega,show lo+(lo+m)-1-(lo+j)=lo+(m-1-j) by omega];exact z1
    refine Hi (sF (fun _ _=>rfl) (fun _ _=>rfl) h0 hD5 hn (by omega) m2 up5 fun n5 q1 q2 q3 _=>?_);exact HL (h n5 _ hD5 (by lia) q2 q3)
theorem SA.bub{st:SortSt}(h:SA a₀ z lo st){src d:Nat}(hs:src<a₀.size)(hd:lo+d<=src):SA a₀ z lo (setArr st (bubble (arrOf st) src d)):=by refine⟨(bubble_perm _ _ _).trans h.perm,h.kind,h.failed,h.pend,fun k hk=>?_⟩;show(bubble (arrOf st) src d)[k]?=_;rw[getElem?_bubble (by rw[h.size];exact hs) d (by lia),Gu (by lia),Gu (by lia)];exact h.keep k hk
theorem rB{st:SortSt}{n ok:Nat}{Q:Bool->SortSt->Prop}(h0:qG a₀)(hn:lo+n<=a₀.size)(hok:ok<=n)(hB:SA a₀ z lo st)(hs:lQ (arrOf st) lo ok)
  (h:∀st',SA a₀ z lo st'->lQ (arrOf st') lo n->Q true st'):wpS (model prog w) A E s (binarySort' lo n ok) Q st:=by
 rw[binarySort'_eq];refine Hi (wpS_mono (wpS_forRange (I:=fun k c st'=>c=(none,())/\SA a₀ z lo st'/\lQ (arrOf st') lo (min k n)) (Q:=fun c st'=>c=(none,())/\SA a₀ z lo st'/\lQ (arrOf st') lo n) ?step ?fin ?init) ?post)
 case post=>rintro c st' ⟨rfl,hB',hs'⟩;exact HL (h st' hB' hs')
 case init=>
  refine⟨rfl,hB,fun i j hij hj=>?_⟩;by_cases h1:ok=0
  ·have e:i=j:=(by lia);subst e;exact Int.le_refl _
  ·exact hs i j hij (by lia)
 case fin=>rintro c st' ⟨hc,hB',hs'⟩;refine⟨hc,hB',?_⟩;rwa[show min (max (max ok 1) n) n=n by lia]at hs'
 case step=>
  rintro k c st' hak hkn ⟨rfl,hB',hs'⟩;rw[show min k n=k by lia]at hs';refine Hi (wpS_mono (wpS_forRange (I:=fun x c st''=>st''=st'/\∃l r,c=(none,l,r)/\l<=r/\r<=k/\r-l<=k-x/\ (∀i,i<l->K (arrOf st') (lo+i)<=K (arrOf st') (lo+k))/\(∀i,r<=i->i<k->K (arrOf st') (lo+k)<K (arrOf st') (lo+i))) (Q:=fun c st''=>st''=st'/\∃l r,c=(none,l,r)/\l<=k/\ (∀i,i<l->K (arrOf st') (lo+i)<=K (arrOf st') (lo+k))/\(∀i,l<=i->i<k->K (arrOf st') (lo+k)<K (arrOf st') (lo+i))) ?istep ?ifin ?iinit) ?ipost)
  case iinit=>exact⟨rfl,0,k,rfl,by lia,by lia,by lia,fun i hi=>by lia,fun i h1 h2=>by lia⟩
  case ifin=>rintro c st'' ⟨rfl,l,r,rfl,hlr,hrk,hm,hlo,hhi⟩;have e:l=r:=(by lia);subst e;exact⟨rfl,l,l,rfl,hrk,hlo,hhi⟩
  case istep=>
   rintro x c st'' _ hxk ⟨rfl,l,r,rfl,hlr,hrk,hm,hlo,hhi⟩;dsimp only;by_cases hge:l>=r
   ·rw[Gz hge];have e:l=r:=(by lia);subst e;exact HL ⟨rfl,l,l,rfl,hrk,hlo,hhi⟩
   ·rw[Gu hge];refine Hi (lU hB' h0 (by lia) (by lia) ?_);dsimp only;by_cases hless:K (arrOf st'') (lo+k)<K (arrOf st'') (lo+(l+r) / 2)
    ·rw[GN hless,Gz rfl];refine HL ⟨rfl,l,(l+r) / 2,rfl,by lia,by lia,by omega,hlo,fun i h1 h2=>?_⟩;exact Int.lt_of_lt_of_le hless (hs' _ _ h1 h2)
    ·rw[GZ hless,Gu (by decide)];refine HL ⟨rfl,(l+r) / 2+1,r,rfl,by lia,by lia,by omega,fun i h1=>?_,hhi⟩;exact Int.le_trans (hs' i ((l+r) / 2) (by lia) (by lia)) (Int.not_lt.mp hless)
  case ipost=>
   rintro c st'' ⟨rfl,l,r,rfl,hlk,hlo,hhi⟩;dsimp only;rw[moveDown'_eq];refine Hi (wpS_modify (HL ⟨rfl,hB'.bub (by omega) (by lia),?_⟩));rw[show min (k+1) n=k+1 by lia];have hks:lo+k<(arrOf st'').size:=(by rw[hB'.size];omega);intro i j hij hj;show K (bubble (arrOf st'') (lo+k) (lo+k-(lo+l))) (lo+i)<=K (bubble (arrOf st'') (lo+k) (lo+k-(lo+l))) (lo+j);rw[K_bubble hks (by lia),K_bubble hks (by omega),show lo+k-(lo+k-(lo+l))=lo+l by lia];have e1:lo+i-1=lo+(i-1)\/i=0:=(by lia);have e2:lo+j-1=lo+(j-1)\/j=0:=(by lia);by_cases i1:i=l
   ·rw[Gz (by lia)];by_cases j1:j=l
    ·rw[Gz (by omega)];exact Int.le_refl _
    ·rw[Gu (by lia),Gz (by lia),show lo+j-1=lo+(j-1) by lia];exact Int.le_of_lt (hhi _ (by lia) (by lia))
   ·rw[Gu (by lia)];by_cases i2:l<i
    ·rw[Gz (by lia),Gu (by lia),Gz (by lia),show lo+i-1=lo+(i-1) by lia,show lo+j-1=lo+(j-1) by lia];exact hs' _ _ (by lia) (by lia)
    ·rw[Gu (by lia)];by_cases j1:j=l
     ·rw[Gz (by omega)];exact hlo _ (by lia)
     ·rw[Gu (by omega)];by_cases j2:l<j
      ·rw[Gz (by lia),show lo+j-1=lo+(j-1) by lia];exact hs' _ _ (by lia) (by lia)
      ·rw[Gu (by lia)];exact hs' _ _ hij (by lia)
end
end LT
namespace LT
open PySem PySem.Spec PyProof.Rows L2
noncomputable abbrev knI:KN where
 kn:=fun p=>numOf p.1
 isK:=fun p=>∃n t,p.1=.int n t
 kd:=oneType'
section
variable{prog:Program}{w:World}{A:Around}{E:Value->Shared->Prop}{s:Shared}
theorem Ae: @vE prog w A E s knI:=by
 letI:=knI;refine⟨fun {st x y Q} hk hx hy h=>?_⟩;obtain⟨a,t,e1⟩:=hx;obtain⟨b,u,e2⟩:=hy;have hk':kindOf st=oneType':=hk;rw[lt'_eq];refine Hi (wpS_get ?_);rw[hk',keyLt'_oneType,e1,e2];refine Hi (wpS_lift (wpAny_attempt (oneLt_int ⟨rfl,?_⟩)));have h':Q (some (decide (a<b))) st:=by
  have:decide (KN.kn x<KN.kn y)=decide (a<b):=by show decide (numOf x.1<numOf y.1)=_;rw[e1,e2];rfl
  rw[<-this];exact h
 exact HL h'
end
end LT
namespace L2
open PySem PySem.Spec PyProof.Rows LM
theorem bq.len{g:Nat->Option Col}{R:cw}(h:bq g R):R.length<=64:=by
 have nd:(R.map fun p=>cb p.1).Nodup:=by rw[List.nodup_iff_pairwise_ne,HZ];exact List.Pairwise.imp (fun {a b} z e=>by lia) h.so
 have:=HI nd (l₂:=List.range 64) fun x hx=>by obtain⟨p,hp,rfl⟩:=Gm.mp hx;exact G7.mpr (f9 (h.ok p hp).1 (by decide) (h.ok p hp).2.1)
 rw[Gh,Hx]at this;exact this
theorem yj{kvs:List (Key×V)}{k:Key}{v v0:V}(h:fo kvs k=some v0):(putK kvs k v).map (·.1)=kvs.map (·.1):=by
 unfold putK;have an:(kvs.any fun kv=>decide (kv.1=k))=true:=by obtain⟨kv,hkv,e⟩:=Bi h;exact Ih.mpr ⟨kv,hkv,GN e⟩
 rw[Gz an,HR];refine List.map_congr_left fun kv _=>?_;show(if kv.1=k then(kv.1,v)else kv).1=kv.1;split<;>rfl
theorem Cm{n:Int}{b:List Key}{c:Col}{r:List Key}(h:r∈iJ n b c):(r∈c/\aN r≠n)\/r=b:=by
 unfold iJ at h;rcases Gv.mp h with z|z
 ·obtain⟨x,hx,e⟩:=Gm.mp z;by_cases q:aN x=n
  ·rw[Gz q]at e;exact .inr e.symm
  ·rw[Gu q]at e;subst e;exact .inl ⟨hx,q⟩
 ·split at z
  ·cases z
  ·exact .inr (Gk.mp z)
mutual
theorem IsD.same{K:Frag}{H H':Hp}(s:ao H H'):∀{d:PyData}{v:V},IsD K H d v->IsD K H' d v
 |_,_,.non=>.non
 |_,_,.bl b=>.bl b
 |_,_,.int i=>.int i
 |_,_,.str x=>.str x
 |_,_,.tup h1 h2=>.tup (s.tup h1) (ff.same s h2)
 |_,_,.lst h1 h2=>.lst (s.seq h1) (ff.same s h2)
theorem ff.same{K:Frag}{H H':Hp}(s:ao H H'):∀{ds:List PyData}{vs:List V},ff K H ds vs->ff K H' ds vs
 |_,_,.nil=>.nil
 |_,_,.cons h1 h2=>.cons (IsD.same s h1) (ff.same s h2)
end
end L2
namespace PySem
open Sem (wp)
section
variable{prog:Program}{w:World}{A:Around}{E:Value->Shared->Prop}{h:Heap}{g:Array GenState}{d:Drawn}{t:Nat}{os:OsState}
variable{nm q:Str}{C N:Addr}{bs bm bmB:List Value}{hdct:Bool}{sn:List Str}{sub:List Value}{ab:Bool}{col:Option Bool}{dd:Option Addr}{k0 k1 k2 k3 k5:Option Value}{B newId initId:String}
theorem g8(F:ExcBaseFacts B newId initId bmB)(T:OwnTail h bmB bm){mN:Str->Option Value}{rest:List Value}{fI:Addr}{oI:Obj}{Q:Fin->Shared->Prop}
  (hC:h.get? C=some (excClassObj nm q C N bs bm hdct sn sub ab col dd k0 k1 k2 k3 k5 newId)) (hn:h.Ns N mN) (hi:mN "__init__"=some (.ref fI))
  (hfI:h.get? fI=some oI) (hfc:oI.cls=.type "function")
  (hq:∀h' e,Heap.MadeExcOf h h' e (.ref C) rest->
   wpAny (model prog w) A (call (.ref fI) (.ref e::rest)) (fun r s'=>r=.none/\Q (.done (.ret (.ref e))) s') E ⟨h',g,d,t,os⟩) (hrest:rest.length<=sizeLine:=by size_fits):
  wpAny (model prog w) A (Builtin.«type.__call__» ⟨.ref C::rest,[]⟩) Q E ⟨h,g,d,t,os⟩:=by
 repeat (first|with_reducible refine HP hC ?_|with_reducible refine wpAny_madeBy_exc hC ?_|wp_step)
 refine codeAny_call_builtin_code (Code.quiet_builtin _ F.quiet) (wpAny_check_new_subT F T hC ?_);refine codeAny_exc_new_subT F T hC ?_ hrest;show wpAny _ _ _ _ _ _;have hC₁:=Gi {cls:=.ref C,data:=.fields #[.ref h.objs.size,.none,.none,.none,.bool false,.none]}
  (Gi {cls:=.type "tuple",data:=.seq rest.toArray} hC)
 have hfI₁:=Gi {cls:=.ref C,data:=.fields #[.ref h.objs.size,.none,.none,.none,.bool false,.none]}
  (Gi {cls:=.type "tuple",data:=.seq rest.toArray} hfI)
 have hn₁:((h.push {cls:=.type "tuple",data:=.seq rest.toArray}).push {cls:=.ref C,data:=.fields #[.ref h.objs.size,.none,.none,.none,.bool false,.none]}).Ns N mN:=
  let ⟨o,es,ep,e,r⟩:=hn;⟨o,es,ep,Gi _ (Gi _ e),r⟩
 have hget:((h.push {cls:=.type "tuple",data:=.seq rest.toArray}).push
   {cls:=.ref C,data:=.fields #[.ref h.objs.size,.none,.none,.none,.bool false,.none]}).get? (h.objs.size+1)=some
   {cls:=.ref C,data:=.fields #[.ref h.objs.size,.none,.none,.none,.bool false,.none]}:=by heap_get
 have hcC:(Value.ref C::bm).contains (.ref C)=true:=by simp
 have T₁:=T.keeps (h':=(h.push {cls:=.type "tuple",data:=.seq rest.toArray}).push {cls:=.ref C,data:=.fields #[.ref h.objs.size,.none,.none,.none,.bool false,.none]})
  fun b o e=>Gi _ (Gi _ e)
 unfold isInstance
 repeat (first|with_reducible refine HP hget ?_|(with_reducible refine wpAny_isSubtype_exc hC₁ ?_;rw[hcC])|wp_step)
 show wpAny _ _ (typeLookup (.ref C) _) _ _ _;refine wpAny_typeLookup_tail hC₁ hn₁ T₁ F.mroIs F.init.lookup ?_;rw[hi];refine Hr (Gg ?_);unfold bindSpecial;refine Gg (wpAny_typeOf (T:="function") ⟨_,hfI₁,hfc⟩ ?_);rw[Gz (by decide)];refine Gj (Gg (Ha (hq _ (h.objs.size+1) ⟨fun b o hb=>Gi _ (Gi _ hb),Heap.get?_none_of_le (Nat.le_succ _),h.objs.size,hget,Heap.get?_none_of_le (Gr _),?_⟩) (fun r s' hr=>?_) fun _ _ x=>x))
 ·exact Gi _ (Heap.get?_push_at rfl rfl)
 ·obtain⟨rfl,hQ⟩:=hr
  wp_walk
  exact hQ
theorem jl(F:ExcBaseFacts B newId initId bmB)(T:OwnTail h bmB bm){mN:Str->Option Value}{rest:List Value}{fI:Addr}{oI:Obj}{Q:Value->Shared->Prop}
  (hC:h.get? C=some (excClassObj nm q C N bs bm hdct sn sub ab col dd k0 k1 k2 k3 k5 newId)) (hn:h.Ns N mN) (hi:mN "__init__"=some (.ref fI))
  (hfI:h.get? fI=some oI) (hfc:oI.cls=.type "function")
  (hq:∀h' e,Heap.MadeExcOf h h' e (.ref C) rest->
   wpAny (model prog w) (A.under (.builtin "type.__call__" ⟨.ref C::rest,[]⟩)) (call (.ref fI) (.ref e::rest)) (fun r s'=>r=.none/\Q (.ref e) s') E ⟨h',g,d,t,os⟩) (hrest:rest.length<=sizeLine:=by size_fits):
  wpAny (model prog w) A (call (.ref C) rest) Q E ⟨h,g,d,t,os⟩:=by
 have f1:=tc_lookup;have f2:=tc_bind (.ref C);have hT:(⟨h,g,d,t,os⟩:Shared).TypeIs (.ref C) "type":=⟨_,hC,rfl⟩;refine wpAny_call (codeAny_of_tree ?_);show wpAny _ _ (callAny (.ref C) _) _ _ _
 repeat (any_goals (first|assumption|with_reducible refine HP hC ?_|wp_step))
 refine⟨rfl,?_⟩;refine codeAny_call_builtin_at (Code.quiet_builtin _ (by decide+kernel)) entry_typeCall (wpAny_check_type_call_sub hC (g8 (hrest:=hrest) F T hC hn hi hfI hfc fun h' e hm=>?_));exact hq h' e hm
end
end PySem
namespace PySem.W
open PySem PySem.Calls PyProof.Rows Builtin Builtin.ObjectAttr
def vErr4:List Value:=[.type "ValueError",.type "Exception",.type "BaseException",.type "object"]
noncomputable def rV:List Value->Bool
 | []=>false
 |v::r=>(v::r)==vErr4||(match v with| .ref _=>rV r|_=>false)
theorem mw(self:Value):∀{l:List Value},rV l=true->refuseLoop self "__setattr__" l=pure ()
 | [],e=>by cases e
 |v::r,e=>by
  unfold rV at e;rcases Bool.or_eq_true_iff.mp e with q|q
  ·rw[show(v::r)=vErr4 from beq_iff_eq.mp q];exact PySem.F.store_ValueError.passes self
  ·split at q
   ·rw[refuseLoop_ref];exact mw self q
   ·cases q
theorem nA{T:String}(hT:vErr4.contains (.type T)=true):∀{l:List Value},rV l=true->l.contains (.type T)=true
 | [],e=>by cases e
 |v::r,e=>by
  unfold rV at e;rcases Bool.or_eq_true_iff.mp e with q|q
  ·rw[show(v::r)=vErr4 from beq_iff_eq.mp q];exact hT
  ·split at q
   ·rw[List.contains_cons,nA hT q,Bool.or_true]
   ·cases q
noncomputable def jE(K:Frag)(C:Addr):Bool:=(clsIn K C).any fun cd=>rV cd.mro&&cd.hasDict
section
variable{K:Frag}{prog:Program}{w:World}{A:Around}{R:Result->Shared->Prop}{s:Shared}{x C:Addr}
theorem rQ{ox:Obj}{od:Option Obj}{name:Str}{tk:Tok}{v:Value}{r:Option Value}(X:K.In s.heap)(I:InstAt s.heap x ox C od)(hp:jE K C=true)(ht:takerIn K C name=some r)
  (h:∀b,wpAny (model prog w) A.in1 (match r with|some a=>setByDescriptor a (.ref x) v|none=>storeInOwnDict (.ref x) (.ref C) (.str name tk) name v b)
   (fun fin s'=>match fin with| .done f=>R (.ok f) s'| .again c'=>c'.quiet=true/\codeAny (model prog w) A c' R s') (fun e s'=>R (.error e) s') s):
  codeAny (model prog w) A (.call (.builtin "object.__setattr__") ⟨[.ref x,.str name tk,v],[]⟩) R s:=by
 have SF:=PySem.F.store_ValueError;obtain⟨cd,hc,ho⟩:=any_some hp;obtain⟨ho,_⟩:=Hm.mp ho;have ne:cd.mro.isEmpty=false:=by cases q:cd.mro with|nil=>rw[q]at ho;cases ho|cons _ _=>rfl
 have sub:Looks (model prog w) s.heap (isInstance (.ref x) (.type "object")) true:=I.type.andThen (looks_mroIn X (by unfold mroIn;rw[hc,Option.bind_some,Gu (by rw[ne];decide),nA rfl ho]));refine codeAny_call_builtin SF.slot.plain SF.entry (@check_slot (model prog w) _ _ s "object.__setattr__" "object" "__setattr__" (.ref x) [.str name tk,v] [] _ SF.kind SF.split sub (SF.args (.ref x) (.str name tk) v) ?_);obtain⟨attr,ha,hr⟩:=Option.bind_eq_some_iff.mp ht;have hm:Looks (model prog w) s.heap (mroOf (.ref C)) cd.mro:=(looks_clsIn X hc).andThen .now;have L3:Looks (model prog w) s.heap (storeTaker? attr) r:=by
  cases attr with
  |none=>cases hr;exact .now
  |some a=>obtain⟨b,hb,rfl⟩:=Option.map_eq_some_iff.mp hr;refine(looks_takesIn X hb).andThen ?_;cases b<;>exact .now
 rw[osa_eq,refuse_eq];refine Gg (Gg (I.type.here (Gg (hm.here ?_))));rw[mw _ ho];refine Gj (Gg (I.type.here (Gg ((looks_findIn X ha).here (Gg (L3.here ?_))))));exact h _
theorem vN{E:Value->Shared->Prop}{ox:Obj}{name:Str}{v:Value}{Q:Unit->Shared->Prop}(X:K.In s.heap)(hx:s.heap.get? x=some ox)(hcl:ox.cls=.ref C)(hnc:notCls ox=true)(hdn:ox.dict=none)
  (hs:findIn K (.ref C) "__setattr__"=some (some (.builtin "object.__setattr__"))) (hp:jE K C=true) (ht:takerIn K C name=some none)
  (hq:∀h',(∀b o,b≠x->s.heap.get? b=some o->h'.get? b=some o)->h'.get? x=some {ox with dict:=some s.heap.objs.size}->h'.Ns1 s.heap.objs.size (fun y=>if y=name then some v else none)->∀t',Q () {s with heap:=h',toks:=t'}):
  wpAny (model prog w) A (setAttr (.ref x) name v) Q E s:=by
 have I:InstAt s.heap x ox C none:=⟨hx,hcl,hnc,by rw[hdn];trivial⟩;refine set_plain X I hs ?_;refine rQ (s:={s with toks:=s.toks+1}) X I hp ht fun b=>?_;obtain⟨cd,hc,ho⟩:=any_some hp;obtain⟨_,hd'⟩:=Hm.mp ho;obtain⟨hh,g,d,t,os⟩:=s;obtain⟨oc,odi,oda,osl⟩:=ox;dsimp only at hcl hdn;subst hcl hdn;have hx₁:(hh.push {cls:=.type "dict",data:=.dict #[]}).get? x=some ⟨.ref C,none,oda,osl⟩:=Gi _ hx;have hxs:x≠hh.objs.size:=G5 (GG hx);refine Gg (Gj (Gg (Gg (wpAny_loadPart hx (Gg (Looks.here (s:=⟨hh,g,d,t+1,os⟩) (looks_clsIn X hc) ?_))))));rw[hd'];rw[Gu (by decide)];split
 ·rename_i hcd;cases hcd
 rw[Gu (by simp[typeHasDict])];split
 ·rename_i c hcd;rw[show oda=Data.cls c from hcd]at hnc;cases hnc
 refine Gg (wpAny_alloc' ?_);refine Gg (wpAny_update' hx₁ ?_);refine Gj ?_;have hgd:((hh.push {cls:=.type "dict",data:=.dict #[]}).update x fun o=>{cls:=o.cls,dict:=some hh.objs.size,data:=o.data,slots:=o.slots}).get? hh.objs.size
   =some {cls:=.type "dict",data:=.dict #[]}:=
  (Heap.get?_update_ne _ _ _ _ hxs.symm).trans (Heap.get?_push_at rfl rfl)
 have hnd:((hh.push {cls:=.type "dict",data:=.dict #[]}).update x fun o=>{cls:=o.cls,dict:=some hh.objs.size,data:=o.data,slots:=o.slots}).Ns hh.objs.size (fun _=>none):=
  ⟨_,#[],_,hgd,rfl,fun e he=>absurd he (by simp),fun _=>rfl⟩
 show wpAny _ _ (storeInDict hh.objs.size (.str name t) name v) _ _ _;unfold storeInDict newKeyGuard;refine Gg (Gj (Gg (wpAny_nsSet1 (Heap.Ns1.of_empty hnd) fun h' hn' hs2=>?_)));obtain⟨oD,esD,epD,hoD,hdD,hcD⟩:=hn'.count (Within.cons name v Within.nil);refine Gg (wpAny_lookBehind hoD (by rw[hdD];exact pastItsLine_dict (G0 hcD (by rw[GV,List.length_nil,Hl];lia))) ?_);refine Gj (hq h' (fun b ob hbx hb=>?_) ?_ hn' _)
 ·exact(hs2.2 b (G5 (GG hb))).trans ((Heap.get?_update_ne _ _ _ _ hbx).trans (Gi _ hb))
 ·refine(hs2.2 x hxs).trans (Ho _ hx₁ ?_);have hfr:=(Heap.get?_some_iff.mp hx).2;cases oda<;>first|rfl|exact hfr
theorem ya{E:Value->Shared->Prop}{ox:Obj}{dx:Addr}{mA:Str->Option Value}{ns:List Str}{name:Str}{v:Value}{Q:Unit->Shared->Prop}(X:K.In s.heap)(hx:s.heap.get? x=some ox)(hcl:ox.cls=.ref C)(hnc:notCls ox=true)(hdx:ox.dict=some dx)(hns:s.heap.Ns1 dx mA)
  (hs:findIn K (.ref C) "__setattr__"=some (some (.builtin "object.__setattr__"))) (hp:jE K C=true) (ht:takerIn K C name=some none) (hw:Within mA ns) (hsz:ns.length<sizeLine)
  (hq:∀h',(∀b,b≠dx->h'.get? b=s.heap.get? b)->h'.Ns1 dx (fun y=>if y=name then some v else mA y)->∀t',Q () {s with heap:=h',toks:=t'}):
  wpAny (model prog w) A (setAttr (.ref x) name v) Q E s:=by
 obtain⟨od,es0,ep0,hod,_⟩:=id hns;have I:InstAt s.heap x ox C (some od):=⟨hx,hcl,hnc,by rw[hdx];exact hod⟩;refine set_plain X I hs ?_;refine rQ (s:={s with toks:=s.toks+1}) X I hp ht fun b=>?_;obtain⟨cd,hc,ho⟩:=any_some hp;obtain⟨_,hd'⟩:=Hm.mp ho;obtain⟨hh,g,d,t,os⟩:=s;obtain⟨oc,odi,oda,osl⟩:=ox;dsimp only at hcl hdx;subst hcl hdx;refine Gg (Gj (Gg (Gg (wpAny_loadPart hx (Gg (Looks.here (s:=⟨hh,g,d,t+1,os⟩) (looks_clsIn X hc) ?_))))));rw[hd'];refine Gj (a:=some dx) ?_;show wpAny _ _ (storeInDict dx (.str name t) name v) _ _ _;unfold storeInDict newKeyGuard;refine Gg (Gj (Gg (wpAny_nsSet1 hns fun h' hn' hs2=>?_)));obtain⟨oD,esD,epD,hoD,hdD,hcD⟩:=hn'.count (Within.cons name v hw);refine Gg (wpAny_lookBehind hoD (by rw[hdD];exact pastItsLine_dict (G0 hcD (by rw[GV];lia))) ?_);exact Gj (hq h' (fun b hb=>hs2.2 b hb) hn' _)
end
section
variable{K:Frag}{prog:Program}{w:World}{A:Around}{E:Value->Shared->Prop}{x C dx:Addr}{ox:Obj}{mA:Str->Option Value}{name:Str}{v:Value}
 {hh:Heap} {g:Array GenState} {d:Drawn} {t:Nat} {os:OsState}
theorem wD{tk:Tok}{Q:Fin->Shared->Prop}(X:K.In hh)(hx:hh.get? x=some ox)(hcl:ox.cls=.ref C)(hnc:notCls ox=true)(hdx:ox.dict=some dx)(hns:hh.Ns1 dx mA)(hv:mA name=some v)
  (hp:jE K C=true) (hna:findIn K (.ref C) name=some none) (hq:Q (.done (.ret v)) ⟨hh,g,d,t,os⟩):
  wpAny (model prog w) A (Builtin.«object.__getattribute__» ⟨[.ref x,.str name tk],[]⟩) Q E ⟨hh,g,d,t,os⟩:=by
 obtain⟨cd,hc,ho⟩:=any_some hp;obtain⟨_,hd'⟩:=Hm.mp ho;unfold Builtin.«object.__getattribute__»
 repeat (first|(with_reducible refine HP hx ?_;rw[hcl])|(with_reducible refine Looks.here (s:=⟨hh,g,d,t,os⟩) (looks_findIn X hna) ?_)|wp_step)
 split
 ·rename_i c hcd;unfold notCls at hnc;rw[hcd]at hnc;cases hnc
 unfold instanceDict
 repeat (first|(with_reducible refine HP hx ?_;rw[hcl])|(with_reducible refine Looks.here (s:=⟨hh,g,d,t,os⟩) (looks_clsIn X hc) ?_;rw[hd'])|wp_step)
 rw[hdx]
 repeat (first|(with_reducible refine wpAny_nsGet hns.ns ?_;rw[hv])|wp_step)
 exact hq
theorem yM{tk:Tok}{R:Result->Shared->Prop}(X:K.In hh)(hx:hh.get? x=some ox)(hcl:ox.cls=.ref C)(hnc:notCls ox=true)(hdx:ox.dict=some dx)(hns:hh.Ns1 dx mA)(hv:mA name=some v)
  (hp:jE K C=true) (hna:findIn K (.ref C) name=some none) (hq:R (.ok (.ret v)) ⟨hh,g,d,t,os⟩):
  codeAny (model prog w) A (.call (.builtin "BaseException.__getattribute__") ⟨[.ref x,.str name tk],[]⟩) R ⟨hh,g,d,t,os⟩:=by
 obtain⟨cd,hc,ho⟩:=any_some hp;obtain⟨ho,_⟩:=Hm.mp ho;obtain⟨od,es0,ep0,hod,_⟩:=id hns;have I:InstAt hh x ox C (some od):=⟨hx,hcl,hnc,by rw[hdx];exact hod⟩;have ne:cd.mro.isEmpty=false:=by cases q:cd.mro with|nil=>rw[q]at ho;cases ho|cons _ _=>rfl
 have sub:Looks (model prog w) hh (isInstance (.ref x) (.type "BaseException")) true:=I.type.andThen (looks_mroIn X (by unfold mroIn;rw[hc,Option.bind_some,Gu (by rw[ne];decide),nA rfl ho]));exact codeAny_call_builtin PySem.F.excAttr_ValueError.ga.plain PySem.F.entry_bexc_ga (@check_slot (model prog w) _ _ ⟨hh,g,d,t,os⟩ "BaseException.__getattribute__" "BaseException" "__getattribute__" (.ref x) [.str name tk] [] _ (by decide+kernel) (by decide+kernel) sub (PySem.F.args_bexc_ga (.ref x) (.str name tk)) (wD X hx hcl hnc hdx hns hv hp hna hq))
theorem F8{expr:Bool}{Q:Value->Shared->Prop}(X:K.In hh)(hx:hh.get? x=some ox)(hcl:ox.cls=.ref C)(hnc:notCls ox=true)(hdx:ox.dict=some dx)(hns:hh.Ns1 dx mA)(hv:mA name=some v)
  (hp:jE K C=true) (hga:findIn K (.ref C) "__getattribute__"=some (some (.builtin "BaseException.__getattribute__"))) (hgt:findIn K (.ref C) "__getattr__"=some none) (hna:findIn K (.ref C) name=some none) (hh':handedOut v=pure v)
  (hq:Q v ⟨hh,g,d,t+1,os⟩):wpAny (model prog w) A (getAttr (.ref x) name expr) Q E ⟨hh,g,d,t,os⟩:=by
 have f3:=PySem.F.excAttr_ValueError.ga.bind (.ref x);have hx0:(expr&&onTheHeap (Value.builtin "BaseException.__getattribute__"))=false:=by cases expr<;>rfl
 have hx2:(Value.builtin "BaseException.__getattribute__"==Value.builtin "object.__getattribute__")=false:=by decide+kernel
 have hx1:(onTheHeap (Value.ref C)&&Value.builtin "BaseException.__getattribute__"==Value.builtin "object.__getattribute__")=false:=by rw[hx2];rfl
 unfold getAttr getAttrBy
 repeat (any_goals (first|assumption|(with_reducible refine HP hx ?_;rw[hcl])|(with_reducible refine Looks.here (s:=⟨hh,g,d,t+1,os⟩) (looks_findIn X hga) ?_)|(with_reducible refine Looks.here (s:=⟨hh,g,d,t+1,os⟩) (looks_findIn X hgt) ?_)|wp_step))
 refine yM X hx hcl hnc hdx hns hv hp hna ?_;show wpAny _ _ (handedOut v) _ _ _;rw[hh'];exact Gj hq
end
end PySem.W
namespace PySem.W
open PySem PySem.Calls PyProof.Rows
theorem wb{K:Frag}{h:Heap}{N:Addr}{mg:Str->Option Value}{n:Str}{v:Value}(X:K.In h)(G:h.Ns N mg)(e:nsIn K N n=some (some v)):mg n=some v:=by
 obtain⟨o,es,ep,ho,hd,_,hf⟩:=G;unfold nsIn at e;split at e
 ·rename_i c d es' n' sl q;have:=X _ _ q;rw[ho]at this;cases this;cases hd;split at e
  ·rename_i en he;cases e;rw[<-hf];unfold nsFind findBy;rw[<-Array.find?_toList,he];rfl
  ·split at e<;>cases e
 ·cases e
noncomputable def CY(K:Frag)(C:Addr)(bmB:List Value)(newId:String)(fI:Addr)(c:Value)(mro:List Value)(ns:Addr)(del:Bool)(sl:Array (Option Value)):Bool:=
 c== .type "type"&&(sl.size==6&&(sl[4]? ==some (some (.builtin newId))&&(mro.head?==some (.ref C)&&(!del&&(tailIn K bmB mro.tail&&(nsOkIn K ns&&nsIn K ns "__init__"==some (some (.ref fI))))))))
noncomputable def jN(K:Frag)(C:Addr)(bmB:List Value)(newId:String)(fI:Addr):Bool:=(K.lookup C).any fun o=>match o.data with
 | .cls cd=>CY K C bmB newId fI o.cls cd.mro cd.ns cd.hasDel o.slots
 |_=>false
theorem Dr{α:Type}{l:Array α}{x:α}(h:l.size=6)(e:l[4]?=some x):∃a b c d f,l= #[a,b,c,d,x,f]:=by obtain⟨l⟩:=l;obtain⟨a,l,rfl⟩:=HH h;obtain⟨b,l,rfl⟩:=HH (G6 h);obtain⟨c,l,rfl⟩:=HH (G6 (G6 h));obtain⟨d,l,rfl⟩:=HH (G6 (G6 (G6 h)));obtain⟨y,l,rfl⟩:=HH (G6 (G6 (G6 (G6 h))));obtain⟨f,rfl⟩:=List.length_eq_one_iff.1 (G6 (G6 (G6 (G6 (G6 h)))));cases e;exact⟨a,b,c,d,f,rfl⟩
theorem lM{K:Frag}{h:Heap}{C fI:Addr}(X:K.In h)(z:jN K C vErr4 "ValueError.__new__" fI=true):
  ∃tl N nm qn bs hd sn sub ab col dd k0 k1 k2 k3 k5 mN,h.get? C=some (excClassObj nm qn C N bs tl hd sn sub ab col dd k0 k1 k2 k3 k5 "ValueError.__new__")/\h.Ns N mN/\mN "__init__"=some (.ref fI)/\OwnTail h vErr4 tl/\∀b r,mroIn K C b=some r->(Value.ref C::tl).contains b=r:=by
 unfold jN at z;cases ho:K.lookup C
 case none=>rw[ho]at z;cases z
 case some o=>
  rw[ho]at z;obtain⟨c,dd,da,sl⟩:=o;cases da
  case cls cd=>
   obtain⟨nm,bs,mro,ns,qn,hd,sn,sub,ab,col,del⟩:=cd;have z:CY K C vErr4 "ValueError.__new__" fI c mro ns del sl=true:=z;obtain⟨z1,z⟩:=Hm.1 z;obtain⟨z2,z⟩:=Hm.1 z;obtain⟨z3,z⟩:=Hm.1 z;obtain⟨z4,z⟩:=Hm.1 z;obtain⟨z5,z⟩:=Hm.1 z;obtain⟨z6,z⟩:=Hm.1 z;obtain⟨z7,z8⟩:=Hm.1 z;obtain⟨tl,rfl⟩:=List.head?_eq_some_iff.1 (eq_of_beq z4);obtain⟨k0,k1,k2,k3,k5,rfl⟩:=Dr (eq_of_beq z2) (eq_of_beq z3);cases eq_of_beq z1;cases Bool.not_eq_true' _ |>.mp z5;have hN:h.Ns ns _:=.of_isNs (isNs_of_in X z7)
   exact⟨tl,ns,nm,qn,bs,hd,sn,sub,ab,col,dd,k0,k1,k2,k3,k5,_,X _ _ ho,hN,wb X hN (eq_of_beq z8),tail_of_in X z6,fun b r hr=>by
    unfold mroIn clsIn at hr;rw[ho]at hr
    exact G2 hr⟩
  all_goals cases z
section
variable{K:Frag}{prog:Program}{w:World}{A:Around}{E:Value->Shared->Prop}{x C:Addr}{hh:Heap}{g:Array GenState}{d:Drawn}{t:Nat}{os:OsState}
 {nm q:Str} {N:Addr} {bs bm:List Value} {hdct:Bool} {sn:List Str} {sub:List Value} {ab:Bool} {col:Option Bool} {dd:Option Addr} {k0 k1 k2 k3 k5:Option Value} {newId:String}
theorem Fj{t0:Addr}{rest:List Value}{Q:Value->Shared->Prop}(T:OwnTail hh vErr4 bm)(hC:hh.get? C=some (excClassObj nm q C N bs bm hdct sn sub ab col dd k0 k1 k2 k3 k5 "ValueError.__new__"))
  (hx:hh.get? x=some {cls:=.ref C,data:=.fields #[.ref t0,.none,.none,.none,.bool false,.none]})
  (hq:∀h',(∀b o,b≠x->hh.get? b=some o->h'.get? b=some o)->h'.get? x=some {cls:=.ref C,data:=.fields #[.ref hh.objs.size,.none,.none,.none,.bool false,.none]}->Q .none ⟨h',g,d,t,os⟩) (hrest:rest.length<=sizeLine:=by size_fits):
  wpAny (model prog w) A (call (.builtin "ValueError.__init__") (.ref x::rest)) Q E ⟨hh,g,d,t,os⟩:=by
 have F:=PySem.F.excBase_ValueError;refine wpAny_call (codeAny_call_builtin F.init.plain F.initEntry (wpAny_check_init_subT F T hC hx rfl ?_))
 wp_walk
 have hx₁:(hh.push {cls:=Value.type "tuple",data:=Data.seq rest.toArray}).get? x=some {cls:=.ref C,data:=.fields #[.ref t0,.none,.none,.none,.bool false,.none]}:=Gi _ hx;refine hq _ (fun b o ne e=>?_) ?_
 ·rw[Hf _ _ (HB ne)];exact Gi _ e
 ·rw[Ho _ hx₁ rfl];rfl
end
end PySem.W
namespace L2
open PySem PySem.Spec PyProof.Rows
noncomputable def XO(x C:Addr)(d:Option Addr):HO:=.ext fun h=>∃t0,h.get? x=some {cls:=.ref C,dict:=d,data:=.fields #[.ref t0,.none,.none,.none,.bool false,.none]}
noncomputable def XD(a:Addr)(fs:List (Str×V)):HO:=.ext fun h=>∃mA,h.Ns1 a mA/\(∀f,iq (fs.lookup f) (mA f))/\PySem.Within mA (fs.map (·.1))
section
variable{P:Program}{w:World}{H:Hp}{h:Heap}{x C a:Addr}{d:Option Addr}{fs:List (Str×V)}
theorem yZ(e:∃t0,h.get? x=some {cls:=.ref C,dict:=d,data:=.fields #[.ref t0,.none,.none,.none,.bool false,.none]}):b9 P w H h x (XO x C d):=by obtain⟨t0,e⟩:=e;exact⟨⟨t0,e⟩,⟨_,e⟩,fun h1 h2 ⟨t,e1⟩ k=>⟨t,k _ e1⟩⟩
theorem CJ{mA:Str->Option Value}(n:h.Ns1 a mA)(r:∀f,iq (fs.lookup f) (mA f))(w':PySem.Within mA (fs.map (·.1))):b9 P w H h a (XD a fs):=by obtain⟨o,es,ep,e,c⟩:=id n;exact⟨⟨mA,n,r,w'⟩,⟨o,e⟩,fun h1 h2 ⟨mA',⟨o1,es1,ep1,e1,c1⟩,r1,w1⟩ k=>⟨mA',⟨o1,es1,ep1,k _ e1,c1⟩,r1,w1⟩⟩
end
theorem C9{H:Hp}{a:Addr}{o:HO}(e:H a=some o):upd H a o=H:=by
 funext b;unfold upd;split
 ·rename_i z;rw[z,e]
 ·rfl
section
variable{X:Cx}{pins:List (Addr×Obj)}{σ:St}{H:Hp}{s:Shared}
theorem Inv.trackO{x C:Addr}{d:Option Addr}(I:Inv X pins σ H s)(n1:X.s₀.heap.get? x=none)(u1:H x=none)(p2:∀p∈X.pn++pins,p.1≠x)(p3:∀y c,X.env.cells.lookup y=some c->c≠x)(p4:x≠X.env.locals)
  (e:∃t0,s.heap.get? x=some {cls:=.ref C,dict:=d,data:=.fields #[.ref t0,.none,.none,.none,.bool false,.none]}):Inv X pins σ (upd H x (XO x C d)) s:=by
 have nx:∀b u,H b=some u->b≠x:=fun b u e z=>by rw[z,u1]at e;cases e
 refine⟨I.ok,I.os,I.bare,⟨I.base.keep,I.base.slot,fun b o' e1 n hx=>?_,I.base.there,fun b xs e1=>?_,fun b o' u e1=>?_,fun b ps e1=>?_⟩,I.loc,I.cell,?_,fun y c e1=>?_,fun p hp=>?_,fun b u e1=>?_,I.len⟩
 ·rw[av (fun z=>by rw[z,n1]at e1;cases e1)];exact I.base.free b o' e1 n hx
 ·have q:=I.base.tups b xs e1;rw[av (nx b _ q)];exact q
 ·have q:=I.base.frzs b o' u e1;rw[av (nx b _ q)];exact q
 ·obtain⟨more,q⟩:=I.base.tbls b ps e1;exact⟨more,by rw[av (nx b _ q)];exact q⟩
 ·rw[av (HB p4)];exact I.free
 ·rw[av (p3 y c e1)];exact I.freeC y c e1
 ·obtain⟨a1,a2,a3⟩:=I.pin p hp;exact⟨a1,by rw[av (p2 p hp)];exact a2,a3⟩
 ·by_cases hb:b=x
  ·subst hb;rw[af]at e1;cases e1;exact yZ e
  ·rw[av hb]at e1;refine(I.hok b u e1).stay (fun _ _ _ q=>q) (fun c q=>?_) fun c xs q=>?_
   ·rw[av (nx c _ q)];exact q
   ·rw[av (nx c _ q)];exact q
structure Ba(K:Frag)(mg:Str->Option Value)(x:Str)(C fI:Addr):Prop where
 mg:mg x=some (.ref C)
 ok:PySem.W.jN K C PySem.W.vErr4 "ValueError.__new__" fI=true
 fn:PySem.W.isFn K (.ref fI)=true
 kp:keepIn K (.ref C)=true
def zr(C:Addr)(sp:Sp)(E:XK)(t:TA):TE:=fun σ H Q=>t σ H fun vs H1=>vs.length<=sizeLine/\∀x,H1 x=none->sp (.ref x::vs) (upd H1 x (XO x C none)) (fun v H2=>v=.non/\Q (.ref x) H2) E
theorem yf{CX:CXT}{k:Nat}{f C:Addr}{fd:FuncData}{ps:List Str}{sp:Sp}{E:XK}{c:Str}{Q:VK}{us:List Value}{vs:List V}(M:Ba X.K X.mg c C f)(F:ir X.prog X.w X.K X.mg X.base CX k f fd ps sp)(hr:cy (k+1) X.A)(hb:Binds X.K fd ps [])
  (hx:Passes CX X E) (hex:X.ex=[]) (I:Inv X pins σ H s) (r:Vals vs us) (hl:vs.length<=sizeLine)
  (h:∀x,H x=none->sp (.ref x::vs) (upd H x (XO x C none)) (fun v H2=>v=.non/\Q (.ref x) H2) E):
  wpAny (model X.prog X.w) X.A (call (.ref C) us) (EP X pins σ Q) X.xe s:=by
 obtain⟨tl,N,nm,qn,bs,hdt,sn,sub,ab,col,dd,k0,k1,k2,k3,k5,mN,hC,hN,hi,T,_⟩:=PySem.W.lM I.kIn M.ok;have hx0:us.length<=sizeLine:=by rw[<-r.length];exact hl
 obtain⟨oI,hfI,hfc⟩:∃oI,s.heap.get? f=some oI/\oI.cls=.type "function":=by have z:=beq_iff_eq.mp M.fn;obtain⟨o,ho,hc⟩:=Option.map_eq_some_iff.mp z;exact⟨o,I.kIn _ _ ho,hc⟩
 obtain⟨hp,g,d,tk,os⟩:=s;refine jl (hrest:=hx0) PySem.F.excBase_ValueError T hC hN hi hfI hfc fun h' x hm=>?_;obtain⟨p1,p2,p3,p4⟩:=I.apart hex hm.new;obtain⟨tt,ht,_,_⟩:=hm.there;have I2:=(I.kept (t':=tk) hm.keeps).trackO p1 (I.untr hm.new) p2 p3 p4 ⟨tt,ht⟩;have hq:=h x (I.untr hm.new);have r2:Vals (V.ref x::vs) (Value.ref x::us):=.cons rfl r;have hl2:(Value.ref x::us++[]).length=ps.length:=by have e:=r2.length;rw[F.len _ _ _ _ hq]at e;rw[GY];exact e.symm
 have hb':=hb _ (Value.ref x::us) I2.kIn hl2;rw[GY]at hb';refine wpAny_call (codeAny_mono (F.run _ X.stack _ _ ⟨Value.ref x::us,[]⟩ (Value.ref x::us) _ _ E (hr.make C us []) (I2.env0.make C us []) hb' r2 hq) fun z s' hq'=>?_);cases z with
 |error e=>exact hx pins σ _ _ e s' I2 hq'
 |ok fl=>
  cases fl with
  |ret u=>obtain⟨v,H',I3,rv,ev,q3⟩:=I2.after hq';subst ev;exact⟨rv,⟨V.ref x,H',I3,rfl,q3⟩⟩
  |next=>exact False.elim hq'
  |brk=>exact False.elim hq'
  |cont=>exact False.elim hq'
theorem BN{CX:CXT}{k:Nat}{f C:Addr}{fd:FuncData}{ps:List Str}{sp:Sp}{E:XK}{c:Str}{e:Expr}{es:List Expr}{t:TA}{np pos:Pos}(M:Ba X.K X.mg c C f)(F:ir X.prog X.w X.K X.mg X.base CX k f fd ps sp)(hr:cy (k+1) X.A)(hb:Binds X.K fd ps [])(hx:Passes CX X E)
  (ha:PA X (e::es) t) (hg:Gl X c:=by rfl) (hex:X.ex=[]:=by rfl) (hdb:(c==("__debug__":Str))=false:=by decide) (he:starEach (e::es) X.env=(false,eval e X.env)::starEach es X.env:=by rfl) (hpl:(backTo pos (starEach es X.env)).any (·.1)=false:=by rfl):
  PE X (.Call (.Name c np) (e::es) [] pos) (zr C sp E t):=by
 intro pins s σ H Q I h;refine wpAny_Call_Name_kw (jX I hg M.mg ?_ hdb);refine PySem.W.callWith_K (h₀:=X.base) I.ok.mod.kin M.kp (thn (ha pos pins s σ H _ I h) fun us s1 ⟨vs,H1,I1,r,hl,q⟩=>⟨I1.kIn,?_⟩) he hpl;exact yf M F hr hb hx hex I1 r hl q
structure CH(K:Frag)(mg:Str->Option Value)(c:Str)(L:Addr):Prop where
 mg:mg c=some (.ref L)
 rd:PySem.W.readsIn K L (.type "type")=true
 sp:PySem.W.specialIn K (.ref L) "__getattribute__"=some (some (.builtin "type.__getattribute__"))
 fc:PySem.W.findCls K (.ref L) (.type "type") "__init__"=some (.val (.builtin "ValueError.__init__"))
def Dj(K:Frag)(t:TA):TE:=fun σ H Q=>t σ H fun vs H1=>∃x C f r,vs=.ref x::r/\r.length<=sizeLine/\H1 x=some (XO x C none)/\PySem.W.jN K C PySem.W.vErr4 "ValueError.__new__" f=true/\Q .non H1
theorem zP{c:Str}{L:Addr}{e:Expr}{es:List Expr}{t:TA}{np apos pos:Pos}{pl:Sem Bool}(Z:CH X.K X.mg c L)(ha:PA X (e::es) t)(hg:Gl X c:=by rfl)(hdb:(c==("__debug__":Str))=false:=by decide)
  (hst:starEach (e::es) X.env=(false,eval e X.env)::starEach es X.env:=by rfl) (hpl:(backTo pos (starEach es X.env)).any (·.1)=false:=by rfl)
  (ht:eval (.Call (.Attribute (.Name c np) "__init__" apos) (e::es) [] pos) X.env=(do
   let ov <-eval (.Name c np) X.env
   standAt apos.atName
   let (f,first) <-holding [ov] (getMethod ov "__init__" pl)
   callWith pos f first (backTo pos (starEach (e::es) X.env)) (backToKw pos (keywordEach [] X.env))):=by rfl):
  PE X (.Call (.Attribute (.Name c np) "__init__" apos) (e::es) [] pos) (Dj X.K t):=by
 intro pins s σ H Q I h;refine PySem.W.methodCall_KW (pl:=pl) (thn (tF (v:=.ref L) hg Z.mg rfl hdb pins s σ H (fun x H1=>x=.ref L/\H1=H) I ⟨rfl,rfl⟩) fun u s1 hPz=>?_) ht;obtain⟨x,H1,I1,rx,ex,eH⟩:=hPz;subst ex eH;obtain rfl:u=Value.ref L:=rx;refine PySem.W.method_cls I1.kIn Z.sp (PySem.W.cls_value I1.kIn Z.rd Z.fc (by decide+kernel) ?_);refine PyProof.Rows.callWith_builtin1 (thn (ha pos pins _ σ _ _ (I1.tok _) h) fun us s2 hPz=>?_) hst hpl;obtain⟨vs,H2,I2,r2,q2⟩:=hPz;obtain⟨x,C,f,r,rfl,hl,hx,ok,q⟩:=q2;obtain⟨u0,us',rfl,r0,r1⟩:∃u0 us',us=u0::us'/\RelV (.ref x) u0/\Vals r us':=by
  cases r2 with
  |cons a b=>exact⟨_,_,rfl,a,b⟩
 obtain rfl:u0=Value.ref x:=r0;obtain⟨tl,N,nm,qn,bs,hdt,sn,sub,ab,col,dd,k0,k1,k2,k3,k5,mN,hC,hN,hi,T,_⟩:=PySem.W.lM I2.kIn ok;obtain⟨t0,ht0⟩:=(I2.hok x _ hx).1;obtain⟨hp,g,d,tk,os⟩:=s2;refine PySem.W.Fj T hC ht0 (fun h' keep e'=>?_) (by rw[<-r1.length];exact hl);have J:=I2.write (x:=x) (e:=x) (o:=XO x C none) (t':=tk) (by rw[hx];trivial) (.inl rfl) keep ⟨_,e'⟩ (yZ ⟨_,e'⟩);rw[C9 hx]at J;exact⟨.non,H2,J,rfl,q⟩
theorem rL{fs:List (Str×V)}{mA:Str->Option Value}{f:Str}{y:V}{u:Value}(r:∀g,iq (fs.lookup g) (mA g))(ry:RelV y u):∀g,iq (((f,y)::fs).lookup g) (if g=f then some u else mA g):=fun g=>by
 by_cases z:g=f
 ·subst z;rw[Gz rfl,List.lookup_cons,beq_self_eq_true];exact ry
 ·rw[Gu z,List.lookup_cons,show(g==f)=false from beq_eq_false_iff_ne.mpr z];exact r g
structure A9(K:Frag)(C:Addr)(f:Str):Prop where
 st:findIn K (.ref C) "__setattr__"=some (some (.builtin "object.__setattr__"))
 pl:PySem.W.jE K C=true
 tk:PySem.W.takerIn K C f=some none
noncomputable def EX (K : PySem.W.Frag) (ta tv : TE) (f : Str) : TS := fun D σ H => tv σ H fun y H1 => ta σ H1 fun x H2 => ∃ a C, x = .ref a ∧ A9 K C f ∧
  ((H2 a = some (XO a C none) ∧ ∀ dx, H2 dx = none → dx ≠ a → D.nx σ (upd (upd H2 a (XO a C (some dx))) dx (XD dx [(f, y)]))) ∨
   (∃ dx fs, H2 a = some (XO a C (some dx)) ∧ H2 dx = some (XD dx fs) ∧ fs.length ≤ 100 ∧ D.nx σ (upd H2 dx (XD dx ((f, y) :: fs)))))
theorem xa{o value:Expr}{f:Str}{pos pos':Pos}{ta tv:TE}(ha:PE X o ta)(hv:PE X value tv)(hs:swapsWith value (some (.Attribute o f pos')) pos.line X.env=pure false:=by rfl):PS X (.Assign [.Attribute o f pos'] value pos) (EX X.K ta tv f):=by
 intro pins s σ H D I h;refine plainObj_wpAny_Assign_Attribute (thn (hv pins s σ H _ I h) fun u s1 hPz=>L2.ep3 hPz fun y H1 I1 ry q=>thn (ha pins s1 σ H1 _ I1 q) fun ov s2 hPz=>?_) hs;obtain⟨x,H2,I2,rx,a,C,ex,F,alt⟩:=hPz;subst ex;obtain rfl:ov=Value.ref a:=rx;rcases alt with⟨hx,q⟩|⟨dx,fs,hx,hd,hlen,q⟩
 ·obtain⟨t0,ht0⟩:=(I2.hok a _ hx).1;refine PySem.W.vN I2.kIn ht0 rfl rfl rfl F.st F.pl F.tk fun h' keep e' n t'=>?_;have hm:(s2.heap.update a fun o=>{o with dict:=some s2.heap.objs.size}).get? a=some {cls:=.ref C,dict:=some s2.heap.objs.size,data:=.fields #[.ref t0,.none,.none,.none,.bool false,.none]}:=Ho _ ht0 rfl;have J1:=I2.write (h':=s2.heap.update a fun o=>{o with dict:=some s2.heap.objs.size}) (x:=a) (e:=a) (o:=XO a C (some s2.heap.objs.size)) (t':=t') (by rw[hx];trivial) (.inl rfl) (fun b u' ne e=>by rw[Hf _ _ (HB ne)];exact e) ⟨_,hm⟩ (yZ ⟨_,hm⟩);have hf:=I2.hok.fresh (Gr s2.heap.objs.size);have J2:=J1.laid (h':=h') (a:=s2.heap.objs.size) (o:=XD s2.heap.objs.size [(f,y)]) (t':=t') (fun b u' e=>?_) (by show(s2.heap.update a _).objs.size<=_;rw[Heap.size_update];exact Gr _) (CJ n (rL (fs:=[]) (fun g=>trivial) ry) (PySem.Within.cons f u PySem.Within.nil))
  ·exact⟨σ,_,J2,q _ hf (fun z=>by rw[z,hx]at hf;cases hf)⟩
  ·by_cases hb:b=a
   ·subst hb;have e2:=hm.symm.trans e;cases e2;exact e'
   ·refine keep b u' hb ?_;have e2:(s2.heap.update a fun o=>{o with dict:=some s2.heap.objs.size}).get? b=some u':=e;rw[Hf _ _ (HB hb)]at e2;exact e2
 ·obtain⟨t0,ht0⟩:=(I2.hok a _ hx).1;obtain⟨mA,n0,r0,w0⟩:=(I2.hok dx _ hd).1;refine PySem.W.ya I2.kIn ht0 rfl rfl rfl n0 F.st F.pl F.tk w0 (by rw[Gh];exact aF (by lia)) fun h' keep n t'=>?_;have J:=I2.write (x:=dx) (e:=dx) (o:=XD dx ((f,y)::fs)) (t':=t') (by rw[hd];trivial) (.inl rfl) (fun b u ne e=>by rw[keep b ne];exact e) (by obtain⟨o,es,ep,e,_⟩:=n;exact⟨o,e⟩) (CJ n ?_ ?_)
  ·exact⟨σ,_,J,q⟩
  ·exact rL r0 ry
  ·exact PySem.Within.cons f u w0
structure RdX(K:Frag)(C:Addr)(f:Str):Prop where
 pl:PySem.W.jE K C=true
 ga:findIn K (.ref C) "__getattribute__"=some (some (.builtin "BaseException.__getattribute__"))
 gt:findIn K (.ref C) "__getattr__"=some none
 na:findIn K (.ref C) f=some none
end
end L2
namespace L2
open PySem PySem.Spec PyProof.Rows LM
structure dR(mg:Str->Option Value)(x:Str)(C:Addr):Prop where
 mg:mg x=some (.ref C)
theorem vx{mg:Str->Option Value}{x:Str}{C:Addr}(Z:dR mg x C):rg mg x=.ref C:=by unfold rg;rw[Z.mg];rfl
def Dp(C:Addr)(f g:Str):Sp:=fun vs H Q _=>∃x tv v u,vs=[.ref x,tv,v,u]/\H x=some (XO x C none)/\∀dx,H dx=none->dx≠x->Q .non (upd (upd H x (XO x C (some dx))) dx (XD dx [(g,u),(f,v)]))
section
variable{P:Program}{w:World}{K:Frag}{mg:Str->Option Value}{base:Heap}
structure TxX(K:Frag)(mg:Str->Option Value)(c:Str)(C:Addr)(st:Stmt)(ps:List Str)(qual:Str):Prop where
 ex:∃f fd,Ba K mg c C f/\Fun K "__init__" qual st f fd/\Binds K fd ps []
structure DfX(P:Program)(w:World)(K:Frag)(mg:Str->Option Value)(base:Heap)(k:Nat)(c:Str)(C:Addr)(ps:List Str)(sp:Sp):Prop where
 ex:∃f fd,Ba K mg c C f/\ir P w K mg base CX0 k f fd ps sp/\Binds K fd ps []
theorem TxX.df{c qual:Str}{C:Addr}{st:Stmt}{N ps:List Str}{k:Nat}{sp:Sp}(T:TxX K mg c C st ps qual)(S:aA N ps (ak st))(len:∀vs H Q E,sp vs H Q E->vs.length=ps.length)
  (hbody:∀(f:Addr)(cdv:Value)(A:Around)(outer:List Env)(s:Shared)(H:Hp)(vs:List V)(Q:VK)(E:XK),Ba K mg c C f->cy k (A.deeper (envOfC qual (ak st) s.heap.objs.size f cdv))->sp vs H Q E->
   ∃t,PSs (gZ CX0 P w K mg base N qual (ak st) f cdv A outer s H E).nox (bj st) t/\t {nx:=fun _ H'=>Q .non H',rt:=Q} (start N vs) H):DfX P w K mg base (k+1) c C ps sp:=by
 obtain⟨f,fd,M,F,b⟩:=T.ex;exact⟨f,fd,M,F.ok S len fun cdv A outer s H vs Q E hr h=>hbody f cdv A outer s H vs Q E M hr h,b⟩
theorem Dd{h:Heap}{c qual:Str}{C f:Addr}{st:Stmt}{ps:List Str}{oc:Value}{od an:Option Addr}{osl:Array (Option Value)}{kV doc pm cdv ct:Value}(X:K.In h)(G:h.Ns mainGlobals mg)
  (a:nsIn K mainGlobals c=some (some (.ref C))) (fi:findIn K (.ref C) "__init__"=some (some (.ref f))) (fn:PySem.W.isFn K (.ref f)=true) (kp:keepIn K (.ref C)=true)
  (l:K.lookup f=some ⟨oc,od,.func (fnOf "__init__" qual (bG st) (bj st) (ak st) .none kV doc pm an cdv ct),osl⟩)
  (cd:codeIn K cdv qual=true) (k:keepIn K (.ref f)=true) (ok:PySem.W.jN K C PySem.W.vErr4 "ValueError.__new__" f=true)
  (hb:∀(kV doc pm:Value)(an:Option Addr)(cdv ct:Value)(us:List Value),us.length=ps.length->bindArgs (fnOf "__init__" qual (bG st) (bj st) (ak st) .none kV doc pm an cdv ct) ⟨us,[]⟩=pure (ps.zip us)):TxX K mg c C st ps qual:=
 ⟨f,_,⟨PySem.W.mg_of X G a,ok,fn,kp⟩,qu l cd k,(qu l cd k).binds hb⟩
theorem Cv{h:Heap}{c:Str}{L:Addr}(X:K.In h)(G:h.Ns mainGlobals mg)(a:nsIn K mainGlobals c=some (some (.ref L)))(rd:PySem.W.readsIn K L (.type "type")=true)
 (sp:PySem.W.specialIn K (.ref L) "__getattribute__"=some (some (.builtin "type.__getattribute__"))) (fc:PySem.W.findCls K (.ref L) (.type "type") "__init__"=some (.val (.builtin "ValueError.__init__"))):CH K mg c L:=⟨PySem.W.mg_of X G a,rd,sp,fc⟩
theorem eA{h:Heap}{c:Str}{C:Addr}(X:K.In h)(G:h.Ns mainGlobals mg)(a:nsIn K mainGlobals c=some (some (.ref C))):dR mg c C:=⟨PySem.W.mg_of X G a⟩
end
section
variable{X:Cx}
theorem nu{j k:Nat}{c:Str}{C:Addr}{ps:List Str}{sp:Sp}{np pos:Pos}{e:Expr}{es:List Expr}{t:TA}(D:DfX X.prog X.w X.K X.mg X.base j c C ps sp)(hr:cy k X.A)(ha:PA X (e::es) t)(hg:Gl X c:=by rfl)(hj:j+1<=k:=by decide)(hex:X.ex=[]:=by rfl)
  (hdb:(c==("__debug__":Str))=false:=by decide) (he:starEach (e::es) X.env=(false,eval e X.env)::starEach es X.env:=by rfl) (hpl:(backTo pos (starEach es X.env)).any (·.1)=false:=by rfl):
  PE X (.Call (.Name c np) (e::es) [] pos) (zr C sp E0 t):=by
 obtain⟨f,fd,M,F,b⟩:=D.ex;exact BN M F (hr.mono hj) b ji ha hg hex hdb he hpl
end
end L2
namespace L2
open PySem
noncomputable def fB(s:Stmt):List Stmt:=match s with
 | .ClassDef _ _ _ b _ _ _ _ _ _ _=>b
 |_=>[]
end L2
namespace L2
theorem Bj{H:Hp}{x dx:PySem.Addr}{o u:HO}(ne:dx≠x):upd (upd H x o) dx u x=some o:=by rw[av (HB ne),af]
theorem dR.uniq{mg:PySem.Str->Option PySem.Value}{x:PySem.Str}{C C':PySem.Addr}(h:dR mg x C)(h':dR mg x C'):C=C':=PySem.Value.ref.inj (G2 (h.mg.symm.trans h'.mg))
end L2
namespace L2
open PySem PySem.Spec PyProof.Rows LM
def E6(K:Frag):List V->Hp->VK->Prop:=fun xs H Q=>E4 K xs H Q\/E5 K xs H Q
theorem kc{X:Cx}:fE X (.builtin "isinstance") (E6 X.K):=by
 intro pins s σ H xs us Q I r h;rcases h with h|h
 ·exact qD pins s σ H xs us Q I r h
 ·exact AU pins s σ H xs us Q I r h
theorem Tx.dfF{P:Program}{w:World}{K:Frag}{mg:Str->Option Value}{base:Heap}{x:Str}{st:Stmt}{ps:List Str}{k:Nat}{sp:Sp}(T:Tx K mg x st ps)(h:∀vs H Q E,¬sp vs H Q E):Df P w K mg base k x ps sp:=by obtain⟨f,fd,F,b,hm⟩:=T.ex;exact⟨f,fd,⟨fun vs H Q E z=>absurd z (h vs H Q E),fun A outer s H args us vs Q E _ _ _ _ z=>absurd z (h vs H Q E)⟩,b,hm,F.kp⟩
mutual
inductive Pln:PyData->Prop
 |non:Pln .none
 |int (i:Int):Pln (.int i)
 |str (x:Str):Pln (.str x)
 |tup {ds:List PyData}:ds.length<=1000->vD ds->Pln (.tuple ds)
inductive vD:List PyData->Prop
 |nil:vD []
 |cons {d:PyData} {ds:List PyData}:Pln d->vD ds->vD (d::ds)
end
theorem ff.len{K:Frag}{H:Hp}:∀{ds:List PyData}{vs:List V},ff K H ds vs->vs.length=ds.length
 |_,_,.nil=>rfl
 |_,_,.cons _ h=>by rw[GV,GV,ff.len h]
theorem ff.at{K:Frag}{H:Hp}:∀{ds:List PyData}{vs:List V}{i:Nat}{v:V},ff K H ds vs->vs[i]?=some v->∃d,ds[i]?=some d/\IsD K H d v
 |_,_,_,_,.nil,e=>by simp at e
 |_,_,0,_,.cons a _,e=>by simp at e;subst e;exact⟨_,rfl,a⟩
 |_,_,i+1,_,.cons _ h,e=>by rw[HF]at e;obtain⟨d,hd,h'⟩:=ff.at h e;exact⟨d,by rw[HF];exact hd,h'⟩
theorem vD.at:∀{ds:List PyData}{i:Nat}{d:PyData},vD ds->ds[i]?=some d->Pln d
 |_,_,_,.nil,e=>by simp at e
 |_,0,_,.cons a _,e=>by simp at e;subst e;exact a
 |_,i+1,_,.cons _ h,e=>by rw[HF]at e;exact vD.at h e
theorem Ef{ds:List PyData}{i:Nat}{d:PyData}(e:ds[i]?=some d):d.depth<=PyData.depthAll ds:=by
 induction ds generalizing i with
 |nil=>simp at e
 |cons c ds ih=>
  show d.depth<=max c.depth (PyData.depthAll ds);cases i with
  |zero=>simp at e;subst e;lia
  |succ i=>
   rw[HF]at e;have:=ih e
   lia
def spA(K:Frag)(m:Nat):Sp:=fun vs H Q _=>∃(v u:V)(d:PyData),vs=[v,u]/\IsD K H d v/\IsD K H d u/\Pln d/\d.depth<m/\Q (.bl true) H
end L2
namespace L2
open PySem PySem.Spec PyProof.Rows
noncomputable def qF(f:Int×Int):Rat:=(f.1:Rat) / (f.2:Rat)
theorem uk{b:Int}(h:0<b):(b:Rat)≠0:=fun z=>by
 have:b=0:=Rat.intCast_inj.mp z
 lia
theorem F1{f g:Int×Int}(hf:0<f.2)(hg:0<g.2):qF f=qF g<->f.1*g.2=g.1*f.2:=by
 have a:=uk hf;have b:=uk hg;unfold qF;constructor
 ·intro e;apply Rat.intCast_inj.mp;rw[Rat.intCast_mul,Rat.intCast_mul];grind
 ·intro e;have:(f.1:Rat)*(g.2:Rat)=(g.1:Rat)*(f.2:Rat):=by rw[<-Rat.intCast_mul,<-Rat.intCast_mul,e]
  grind
theorem Dv{t b:Int}(h:0<b):qF (Eb t b)=(t:Rat) / (b:Rat):=by
 have:=(F1 (f:=Eb t b) (g:=(t,b)) (Cj t h).pos h).mpr (by
  show frT t b*b=t*frB t b
  rw[Ay,Int.mul_comm])
 exact this
noncomputable def uz(S:Sh):Rat:=(S.map fun p=>qF p.2).sum
theorem zm:uz []=0:=rfl
theorem fG(p:Str×Int×Int)(S:Sh):uz (p::S)=qF p.2+uz S:=by unfold uz;rw[GC,List.sum_cons]
theorem x5{S T:Sh}(h:S.Perm T):uz S=uz T:=by
 induction h with
 |nil=>rfl
 |cons p _ ih=>rw[fG,fG,ih]
 |swap p q l=>rw[fG,fG,fG,fG];grind
 |trans _ _ a b=>exact a.trans b
structure GS(ss:List Str)(S:Sh):Prop where
 nd:(S.map (·.1)).Nodup
 so:sortedS (S.map (·.1))=true
 ok:∀p∈S,Ez p.2/\0<p.2.1
 fin:∀p∈S,¬FIN<p.2.2
 tot:uz S=1
 nm:∀p∈S,p.1∈ss
theorem CU:∀{l m:List Str},l.Nodup->(∀x∈l,x∈m)->l.length<=m.length
 | [],m,_,_=>G1 _
 |x::l,m,nd,h=>by
  rw[Hv]at nd;have hx:=h x (Gy ..);have ih:=CU (l:=l) (m:=m.erase x) nd.2 fun y hy=>(List.mem_erase_of_ne (fun z:y=x=>nd.1 (by rw[<-z];exact hy))).mpr (h y (Gs _ hy));have:=List.length_erase_of_mem hx;have:0<m.length:=List.length_pos_of_mem hx;rw[GV]
  lia
theorem rM:∀(l:List Str)(p:Str),(p::l).Pairwise leS->risingS p l=true
 | [],p,_=>rfl
 |q::l,p,h=>by rw[List.pairwise_cons]at h;have ih:=rM l q h.2;have e:=h.1 q (Gy ..);unfold leS at e;unfold risingS;simp[e,ih]
theorem yh{l:List Str}(h:l.Pairwise leS):sortedS l=true:=by
 cases l with
 |nil=>rfl
 |cons p l=>exact rM l p h
section
variable{ss:List Str}{S:Sh}
theorem GS.names(h:GS ss S):∀x∈S.map (·.1),x∈ss:=fun x hx=>by obtain⟨p,hp,rfl⟩:=Gm.mp hx;exact h.nm p hp
theorem GS.len(h:GS ss S):S.length<=ss.length:=by have:=CU h.nd h.names;rwa[Gh]at this
end
theorem Paired.rev{α β:Type}{R:α->β->Prop}{xs:List α}{ys:List β}(hI:Paired R xs ys):Paired R xs.reverse ys.reverse:=by
 induction hI with
 |nil=>exact .nil
 |cons a b ih=>rw[List.reverse_cons,List.reverse_cons];exact Paired.app (ih) (.cons a .nil)
end L2
namespace LT
open PySem PySem.Spec PyProof.Rows L2
noncomputable abbrev AN:=List (Addr×Str)
noncomputable def nameAt(zs:AN)(a:Addr):Str:=((zs.find? fun z=>decide (z.1=a)).map (·.2)).getD (Str.ofString "")
noncomputable def bl(x y:Str):Bool:=strKind.blt x.cps.toList y.cps.toList
noncomputable def rank(zs:AN)(x:Str):Nat:=(zs.filter fun z=>bl z.2 x).length
def CD(zs:AN):Prop:=∀z∈zs,∀y∈zs,z.1=y.1->z.2=y.2
theorem nH{zs:AN}(h:CD zs){z:Addr×Str}(hz:z∈zs):nameAt zs z.1=z.2:=by
 unfold nameAt;cases e:zs.find? fun y=>decide (y.1=z.1)with
 |none=>exact absurd (Ie.mp e z hz) (by simp)
 |some y=>
  have e1:y.1=z.1:=by have:=List.find?_some e;simpa using this
  exact h y (List.mem_of_find?_eq_some e) z hz e1
theorem AX(x:Str):bl x x=false:=strKind.irrefl _
theorem AV{x y z:Str}(a:bl x y=true)(b:bl y z=true):bl x z=true:=strKind.trans _ _ _ a b
theorem AW{x y:Str}(a:bl x y=false)(b:bl y x=false):x=y:=Bt (strKind.total _ _ a b)
theorem filter_le{α:Type}{p q:α->Bool}:∀{l:List α},(∀x∈l,p x=true->q x=true)->(l.filter p).length<=(l.filter q).length
 | [],_=>Gr _
 |x::l,h=>by
  have ih:=filter_le (l:=l) fun y hy=>h y (Gs _ hy);have hx:=h x (Gy ..);rw[List.filter_cons,List.filter_cons];cases e:p x with
  |true=>rw[Gz rfl,Gz (hx e),GV,GV];lia
  |false=>
   rw[Gu (by simp)];split
   ·rw[GV];lia
   ·exact ih
theorem filter_lt{α:Type}{p q:α->Bool}:∀{l:List α}{y:α},(∀x∈l,p x=true->q x=true)->y∈l->p y=false->q y=true->(l.filter p).length<(l.filter q).length
 |x::l,y,h,hy,h1,h2=>by
  have ht:∀z∈l,p z=true->q z=true:=fun z hz=>h z (Gs _ hz);rw[List.filter_cons,List.filter_cons];rcases GH.mp hy with e|e
  ·subst e;have:=filter_le ht;rw[Gu (by simp[h1]),Gz h2,GV]
   lia
  ·have ih:=filter_lt ht e h1 h2;have hx:=h x (Gy ..);cases e':p x with
   |true=>rw[Gz rfl,Gz (hx e'),GV,GV];lia
   |false=>
    rw[Gu (by simp)];split
    ·rw[GV];lia
    ·exact ih
theorem tj{zs:AN}{z:Addr×Str}(hz:z∈zs){y:Str}(h:bl z.2 y=true):rank zs z.2<rank zs y:=
 filter_lt (fun _ _ e=>AV e h) hz (AX _) h
theorem zE{zs:AN}{z y:Addr×Str}(hz:z∈zs)(hy:y∈zs):decide ((rank zs z.2:Int)<rank zs y.2)=bl z.2 y.2:=by
 cases e:bl z.2 y.2 with
 |true=>exact GN (by have:=tj hz e;omega)
 |false=>
  refine GZ fun w=>?_;cases e2:bl y.2 z.2 with
  |true=>have:=tj hy e2;omega
  |false=>rw[AW e e2]at w;lia
noncomputable abbrev DV(zs:AN):KN where
 kn:=fun p=>match p.1 with| .ref a=>(rank zs (nameAt zs a):Nat)|_=>0
 isK:=fun p=>∃z∈zs,p=(.ref z.1,.ref z.1)
 kd:=tuples' true
def wO(h:Heap)(a:Addr)(x:Str):Prop:=∃o its n t,h.get? a=some o/\o.cls=.type "tuple"/\o.data=.seq its n/\its[0]?=some (.str x t)
section
variable{prog:Program}{w:World}{A:Around}{E:Value->Shared->Prop}{s:Shared}
theorem yB(b:Bool)(x y:Value):keyLt' (tuples' b) x y=(do
 let xs <-Builtin.List.listItems x;let ys <-Builtin.List.listItems y
 for ((p,q),i)in(xs.toList.zip ys.toList).zipIdx do
  if !(<-eqBool p q)then return <-oneLt' (b&&i==0) p q
 return xs.size<ys.size):=rfl
theorem vo{v:Value}{Q:Bool->Shared->Prop}(hv:(v==v)=true)(q:Q true s):wpAny (model prog w) A (eqBool v v) Q E s:=by unfold eqBool;refine Hr ?_;rw[hv];exact Gg (wpAny_rule (Gj q))
noncomputable def El(b:Bool):(Value×Value)×Nat->Option Bool×Unit->Sem (ForInStep (Option Bool×Unit)):=fun x _=>match x with
 |((p,q),i)=>do
  if !(<-eqBool p q)then
   let r <-oneLt' (b&&i==0) p q
   pure (ForInStep.done (some r,()))
  else pure (ForInStep.yield (none,()))
theorem wy(b:Bool)(x y:Value):keyLt' (tuples' b) x y=(do
  let xs <-Builtin.List.listItems x;let ys <-Builtin.List.listItems y;let r <-forIn ((xs.toList.zip ys.toList).zipIdx) (none,()) (El b)
  match r.1 with
  |some r=>pure r
  |none=>pure (decide (xs.size<ys.size))):=by
 rw[yB]
 have e:(fun(x:(Value×Value)×Nat) (_:Option Bool×Unit)=>(match x with
  |((p,q),i)=>do
   let d <-eqBool p q
   if(!d)=true then do
     let r <-oneLt' (b&&i==0) p q
     pure (ForInStep.done (some r,()))
    else pure (ForInStep.yield (none,())):Sem (ForInStep (Option Bool×Unit))))=El b:=by
  funext x u;obtain⟨⟨p,q⟩,i⟩:=x;rfl
 rw[<-e];refine congrArg _ (funext fun xs=>congrArg _ (funext fun ys=>congrArg _ (funext fun z=>?_)));obtain⟨z1,z2⟩:=z;cases z1<;>rfl
theorem rK{R:Option Bool×Unit->Shared->Prop}{b:Bool}(q:R (none,()) s):∀(l:List Value)(k:Nat),(∀v∈l,(v==v)=true)->wpAny (model prog w) A (forIn ((l.zip l).zipIdx k) (none,()) (El b)) R E s
 | [],k,_=>Gj q
 |v::l,k,h=>by rw[List.zip_cons_cons,List.zipIdx_cons,List.forIn_cons];refine Gg (Gg (vo (h v (Gy ..)) (Gj ?_)));exact rK q l (k+1) fun u hu=>h u (Gs _ hu)
theorem DQ{a b:Addr}{x y:Str}{Q:Bool->Shared->Prop}(ha:wO s.heap a x)(hb:wO s.heap b y)(self:∀v:Value,(v==v)=true)(same:x=y->a=b)(q:Q (bl x y) s):wpAny (model prog w) A (keyLt' (tuples' true) (.ref a) (.ref b)) Q E s:=by
 obtain⟨o,its,n,t,e1,e2,e3,e4⟩:=ha;obtain⟨o',its',n',t',f1,f2,f3,f4⟩:=hb;rw[wy];refine Gg (listItems_at e1 e3 (Gg (listItems_at f1 f3 (Gg ?_))));by_cases e:x=y
 ·obtain rfl:=same e;rw[e1]at f1;cases f1;rw[e3]at f3;cases f3;refine rK ?_ _ 0 fun v _=>self v;have:bl x y=false:=by rw[e];exact AX _
  rw[this]at q;refine Gj ?_;rw[GZ (HW _)];exact q
 ·obtain⟨r,er⟩:∃r,its.toList=.str x t::r:=by
   rw[<-HU]at e4;cases h:its.toList with
   |nil=>rw[h]at e4;cases e4
   |cons v r=>rw[h]at e4;cases e4;exact⟨r,rfl⟩
  obtain⟨r',er'⟩:∃r',its'.toList=.str y t'::r':=by
   rw[<-HU]at f4;cases h:its'.toList with
   |nil=>rw[h]at f4;cases f4
   |cons v r=>rw[h]at f4;cases f4;exact⟨r,rfl⟩
  rw[er,er',List.zip_cons_cons,List.zipIdx_cons,List.forIn_cons];refine Gg (Gg (wpAny_eqBool_str ?_));rw[GZ e];exact Gg (oneLt_str (Gj (Gj (Gj q))))
theorem Ad{zs:AN}(hz:∀z∈zs,wO s.heap z.1 z.2)(nd:(zs.map (·.2)).Nodup)(one:CD zs)(self:∀v:Value,(v==v)=true): @vE prog w A E s (DV zs):=by
 letI:=DV zs;refine⟨fun {st x y Q} hk hx hy h=>?_⟩;obtain⟨z,mz,rfl⟩:=hx;obtain⟨y,my,rfl⟩:=hy;rw[lt'_eq];refine Hi (wpS_get ?_);rw[hk];refine Hi (wpS_lift (wpAny_attempt (DQ (hz z mz) (hz y my) self (fun e=>?_) ⟨rfl,?_⟩)))
 ·have key:∀(l:AN),(l.map (·.2)).Nodup->z∈l->y∈l->z.2=y.2->z=y:=by
   intro l
   induction l with
   |nil=>intro _ h;cases h
   |cons r l ih=>
    intro nd h1 h2 e;rw[GC,Hv]at nd;rcases GH.mp h1 with a|a
    ·rcases GH.mp h2 with b|b
     ·rw[a,b]
     ·exact absurd (HM (f:=(·.2)) b) (by rw[<-e,a];exact nd.1)
    ·rcases GH.mp h2 with b|b
     ·exact absurd (HM (f:=(·.2)) a) (by rw[e,b];exact nd.1)
     ·exact ih nd.2 a b e
  rw[key zs nd mz my e]
 ·refine HL ?_;have e1:KN.kn (.ref z.1,.ref z.1)=(rank zs z.2:Int):=by show((rank zs (nameAt zs z.1):Nat):Int)=_;rw[nH one mz]
  have e2:KN.kn (.ref y.1,.ref y.1)=(rank zs y.2:Int):=by show((rank zs (nameAt zs y.1):Nat):Int)=_;rw[nH one my]
  rw[e1,e2,zE mz my]at h;exact h
end
theorem uK{α β:Type}{f:α->β}:∀{zs:List α}{l:List β},l.Perm (zs.map f)->∃ys:List α,ys.Perm zs/\l=ys.map f:=by
 intro zs l h;generalize hm:zs.map f=m at h
 induction h generalizing zs with
 |nil=>rw[List.map_eq_nil_iff]at hm;subst hm;exact⟨[],.nil,rfl⟩
 |cons x _ ih=>obtain⟨z,zs',rfl,rfl,rfl⟩:=List.map_eq_cons_iff.mp hm;obtain⟨ys,h1,h2⟩:=ih rfl;exact⟨z::ys,h1.cons z,by rw[GC,h2]⟩
 |swap x y l=>obtain⟨z,zs',rfl,rfl,h2⟩:=List.map_eq_cons_iff.mp hm;obtain⟨z2,zs2,rfl,rfl,rfl⟩:=List.map_eq_cons_iff.mp h2;exact⟨z2::z::zs2,.swap z z2 zs2,rfl⟩
 |trans _ _ ih1 ih2=>obtain⟨ys,h1,rfl⟩:=ih2 hm;obtain⟨ws,h3,rfl⟩:=ih1 rfl;exact⟨ws,h3.trans h1,rfl⟩
section
variable{prog:Program}{w:World}{A:Around}{E:Value->Shared->Prop}{s:Shared}
theorem sE{M:Model}{α:Type}{f:Value->Sem α}{g:Value->α}:∀{vs:List Value}{Q:List α->Shared->Prop},(∀v∈vs,∀{R:α->Shared->Prop},R (g v) s->wpAny M A (f v) R E s)->Q (vs.map g) s->wpAny M A (vs.mapM f) Q E s
 | [],Q,_,q=>by rw[List.mapM_nil];exact Gj q
 |v::vs,Q,h,q=>by rw[List.mapM_cons];refine Gg (h v (Gy ..) (Gg (sE (g:=g) (fun u hu=>h u (Gs _ hu)) (Gj q))))
noncomputable def vals(zs:AN):List Value:=zs.map fun z=>.ref z.1
theorem firstT (v : Value) : firstOfTuple' v = (do if (← typeOf v) != .type "tuple" then return none
                                                   return (← Builtin.List.listItems v)[0]?) := rfl
theorem Al{zs:AN}(hz:∀z∈zs,wO s.heap z.1 z.2)(h2:zs≠[]){Q:SortKind->Shared->Prop}(q:Q (tuples' true) s):wpAny (model prog w) A (keyKind' (vals zs).toArray) Q E s:=by
 have key:∀v∈vals zs,∃x t,∀{R:Option Value->Shared->Prop},R (some (.str x t)) s->wpAny (model prog w) A (firstOfTuple' v) R E s:=fun v hv=>by obtain⟨z,mz,rfl⟩:=Gm.mp hv;obtain⟨o,its,n,t,e1,e2,e3,e4⟩:=hz z mz;refine⟨z.2,t,fun {R} r=>?_⟩;rw[firstT];refine Gg (wpAny_typeOf (T:="tuple") ⟨o,e1,e2⟩ ?_);rw[Gu (by simp)];refine Gg (listItems_at e1 e3 (Gj ?_));rw[e4];exact r
 have gex:∀v:Value,∃u:Value,v∈vals zs->(∃x t,u=.str x t)/\∀{R:Option Value->Shared->Prop},R (some u) s->wpAny (model prog w) A (firstOfTuple' v) R E s:=fun v=>by
  by_cases hv:v∈vals zs
  ·obtain⟨x,t,h⟩:=key v hv;exact⟨.str x t,fun _=>⟨⟨x,t,rfl⟩,h⟩⟩
  ·exact⟨.none,fun z=>absurd z hv⟩
 let g:Value->Value:=fun v=>(gex v).choose;have hg:∀v∈vals zs,(∃x t,g v=.str x t)/\∀{R:Option Value->Shared->Prop},R (some (g v)) s->wpAny (model prog w) A (firstOfTuple' v) R E s:=fun v hv=>(gex v).choose_spec hv;rw[keyKind'_eq,List.mapM_toArray,<-bind_pure_comp];refine Gg (Gg (sE (g:=fun v=>some (g v)) (fun v hv {R} r=>(hg v hv).2 r) (Gj ?_)));have c1:((vals zs).map fun v=>some (g v)).toArray.all (·.isSome)=true:=by simp
 rw[Gz c1];have e1:((vals zs).map fun v=>some (g v)).toArray.filterMap id=((vals zs).map g).toArray:=by simp[List.filterMap_toArray,List.filterMap_map]
 refine Gg (wpAny_rule ?_);rw[e1,oneTypeOnly'_eq,List.mapM_toArray,<-bind_pure_comp];refine Gg (Gg (Gg (sE (f:=typeOf) (g:=fun _=>Value.type "str") (fun v hv {R} r=>?_) (Gj ?_))))
 ·obtain⟨u,hu,rfl⟩:=Gm.mp hv;obtain⟨x,t,e⟩:=(hg u hu).1;rw[e];exact wpAny_typeOf (typeIs_str s x t) r
 ·have hl:(((vals zs).map g).map fun _=>Value.type "str").toArray[0]?=some (Value.type "str"):=by
   cases zs with
   |nil=>exact absurd rfl h2
   |cons z zs=>simp[vals]
  rw[hl];have ha:(((vals zs).map g).map fun _=>Value.type "str").toArray.all (·==Value.type "str")=true:=by simp only[List.all_toArray,List.all_map,List.all_eq_true];intro _ _;rfl
  refine Gj ?_;rw[ha];exact Gj q
end
end LT
namespace L2
open PySem PySem.Spec PyProof.Rows LM
noncomputable def nmO(p a:Int)(k:Nat):Str:=if p=0 then sW (Str.ofString "q") ((k:Int)+1).toNat else Txt.slice (Str.ofString "landa") none (some a)++⟨#[112+k]⟩++Txt.slice (Str.ofString "landa") (some (a+1)) none
noncomputable abbrev g9(w:Int)(k:Nat):Str:=nmO (w % 2) (w / 2 % 5) k
theorem xr:∀p∈[(0:Int),1],∀a∈[(0:Int),1,2,3,4],∀k∈List.range 6,(nmO p a k).length=(if p=0 then k+1 else 5)/\(nmO p a k).cps.all (fun c=>97<=c&&c<=122)=true/\∀j∈List.range 6,nmO p a k=nmO p a j->k=j:=by decide+kernel
theorem tR{w:Int}{k:Nat}(hk:k<6):Gd (g9 w k):=by
 have p:w % 2∈[(0:Int),1]:=by rcases (show w % 2=0\/w % 2=1 by lia)with e|e<;>rw[e]<;>decide
 have a:w / 2 % 5∈[(0:Int),1,2,3,4]:=by rcases (show w / 2 % 5=0\/w / 2 % 5=1\/w / 2 % 5=2\/w / 2 % 5=3\/w / 2 % 5=4 by lia)with e|e|e|e|e<;>rw[e]<;>decide
 obtain⟨h1,h2,_⟩:=xr _ p _ a k (G7.mpr hk);refine⟨fun c hc=>?_,?_,?_⟩
 ·have:=Array.all_eq_true'.mp h2 c (by simpa using hc);simpa using this
 ·show 1<=(nmO (w % 2) (w / 2 % 5) k).length;rw[h1];split<;>lia
 ·show(nmO (w % 2) (w / 2 % 5) k).length<=8;rw[h1];split<;>lia
theorem zX{w:Int}{k j:Nat}(hk:k<6)(hj:j<6)(e:g9 w k=g9 w j):k=j:=by
 have p:w % 2∈[(0:Int),1]:=by rcases (show w % 2=0\/w % 2=1 by lia)with e|e<;>rw[e]<;>decide
 have a:w / 2 % 5∈[(0:Int),1,2,3,4]:=by rcases (show w / 2 % 5=0\/w / 2 % 5=1\/w / 2 % 5=2\/w / 2 % 5=3\/w / 2 % 5=4 by lia)with e|e|e|e|e<;>rw[e]<;>decide
 exact(xr _ p _ a k (G7.mpr hk)).2.2 j (G7.mpr hj) e
def HdE(K:Frag)(H:Hp)(v:V)(g:Nat):Prop:=∃r rest,v=.ref r/\SqT K H r (.int (g:Nat)::rest)
noncomputable def cW:List V->List Nat->Nat->V
 |x::xs,g::gs,c=>if g.testBit c=true then x else cW xs gs c
 |_,_,_=>.non
theorem iX{xs:List V}{gs:List Nat}{c i:Nat}{x:V}{g:Nat}(e1:xs[i]?=some x)(e2:gs[i]?=some g):cW (xs.drop i) (gs.drop i) c=if g.testBit c=true then x else cW (xs.drop (i+1)) (gs.drop (i+1)) c:=by rw[jZ e1,jZ e2];rfl
end L2
namespace L2
open PySem PySem.W
theorem ah{X:Cx}{body:List Stmt}{Z:TS->Prop}(n:Nat){u:TS}(r:PSs X (body.drop n) u)(k:let R:=u;PSs X (body.drop n) R->∃t,PSs X body t/\Z t):∃t,PSs X body t/\Z t:=k r
theorem aO{X:Cx}{body:List Stmt}{Z:TS->Prop}(k:let Y:=X;∃t,PSs Y body t/\Z t):∃t,PSs X body t/\Z t:=k
theorem DT{P:List Value->Prop}(h:∀a0,P [a0])(us:List Value)(hl:us.length=1):P us:=by
 cases us with
 |nil=>cases hl
 |cons a0 us=>exact(show P (a0::us)from by cases us with|nil=>exact h a0|cons b us=>cases hl)
theorem wq{P:List Value->Prop}(h:∀a0 a1,P [a0,a1])(us:List Value)(hl:us.length=2):P us:=by
 cases us with
 |nil=>cases hl
 |cons a0 us=>exact DT (P:=fun us=>P (a0::us)) (h a0) us (G6 hl)
theorem DS{P:List Value->Prop}(h:∀a0 a1 a2,P [a0,a1,a2])(us:List Value)(hl:us.length=3):P us:=by
 cases us with
 |nil=>cases hl
 |cons a0 us=>exact wq (P:=fun us=>P (a0::us)) (h a0) us (G6 hl)
theorem DR{P:List Value->Prop}(h:∀a0 a1 a2 a3,P [a0,a1,a2,a3])(us:List Value)(hl:us.length=4):P us:=by
 cases us with
 |nil=>cases hl
 |cons a0 us=>exact DS (P:=fun us=>P (a0::us)) (h a0) us (G6 hl)
theorem yy{P:List Value->Prop}(h:∀a0 a1 a2 a3 a4,P [a0,a1,a2,a3,a4])(us:List Value)(hl:us.length=5):P us:=by
 cases us with
 |nil=>cases hl
 |cons a0 us=>exact DR (P:=fun us=>P (a0::us)) (h a0) us (G6 hl)
theorem Fg{P:List Value->Prop}(h:∀a0 a1 a2 a3 a4 a5,P [a0,a1,a2,a3,a4,a5])(us:List Value)(hl:us.length=6):P us:=by
 cases us with
 |nil=>cases hl
 |cons a0 us=>exact yy (P:=fun us=>P (a0::us)) (h a0) us (G6 hl)
theorem F3{P:List Value->Prop}(h:∀a0 a1 a2 a3 a4 a5 a6,P [a0,a1,a2,a3,a4,a5,a6])(us:List Value)(hl:us.length=7):P us:=by
 cases us with
 |nil=>cases hl
 |cons a0 us=>exact Fg (P:=fun us=>P (a0::us)) (h a0) us (G6 hl)
end L2
namespace L2
open PySem PySem.Spec PyProof.Rows
section
variable{X:Cx}{tg:Expr}
def FN(P:Program)(w:World)(K:Frag)(neg:Bool)(ty td:TE):TE:=fun σ H Q=>ty σ H fun y H1=>td σ H1 fun x H2=>∃d o T b c,x=.ref d/\m9 P w K H2 d o T/\y=.ref b/\bX K H2 b c/\Q (.bl (if neg then !(atT T c).isSome else(atT T c).isSome)) H2
theorem yl{i o:Expr}{td ty:TE}(hu:X.A.units+64<cLine)(hi:PE X i ty)(ho:PE X o td):PC X .NotIn i o (FN X.prog X.w X.K true ty td):=by
 intro pins s σ H Q I h;refine thn (hi pins s σ H _ I h) fun iv s1 hPz=>L2.ep3 hPz fun y H1 I1 ry q1=>thn (ho pins s1 σ H1 _ I1 q1) fun u s2 hPz=>?_;obtain⟨x,H2,I2,rx,d,ob,T,b,c,ex,hc,ey,hb,q2⟩:=hPz;subst ex ey;cases rx;cases ry;obtain⟨h1,h2,h3,h4⟩:=hc;obtain⟨vs,rv,DD⟩:=h2.dict I2 h1 h4;refine wpAny_notIn_heap (show X.A.in1.units+3<cLine by simp only[Around.in1_units];omega) (hb.is I2) h3 DD ?_;have e:(atKey vs c).isSome=(atT T c).isSome:=by rcases AR (c:=c) rv with⟨z1,z2⟩|⟨v',p,z1,z2,_⟩<;>rw[z1,z2]<;>rfl
 rw[e];exact⟨.bl _,H2,I2.tok _,rfl,q2⟩
end
noncomputable abbrev wSh(L:Ws):Sh:=L.map fun p=>(p.1,frT p.2 (iw L),frB p.2 (iw L))
theorem wY{t:Int}(ht:0<t):∀L:Ws,uz (L.map fun p=>(p.1,frT p.2 t,frB p.2 t))=(((L.map (·.2)).sum:Int):Rat) / (t:Rat)
 | []=>by rw[List.map_nil,zm];show(0:Rat)=((0:Int):Rat) / _;grind
 |p::L=>by rw[GC,fG,wY ht L,GC,List.sum_cons,Rat.intCast_add];have e:qF (frT p.2 t,frB p.2 t)=(p.2:Rat) / (t:Rat):=Dv ht;show qF (frT p.2 t,frB p.2 t)+_=_;rw[e];grind
theorem Fn{ss:List Str}{S:Sh}{L:Ws}(nd:(L.map (·.1)).Nodup)(pos:∀p∈L,0<p.2)(hL:0<iw L)(hf:iw L<=FIN)(pm:S.Perm (wSh L))(so:(S.map (·.1)).Pairwise leS)(nm:∀p∈L,p.1∈ss):GS ss S:=by
 have e1:(wSh L).map (·.1)=L.map (·.1):=by rw[HR];rfl
 have mem:∀p∈S,∃q∈L,p=(q.1,frT q.2 (iw L),frB q.2 (iw L)):=fun p hp=>by obtain⟨q,hq,e⟩:=Gm.mp (pm.mem_iff.mp hp);exact⟨q,hq,e.symm⟩
 refine⟨?_,yh so,fun p hp=>?_,fun p hp=>?_,?_,fun p hp=>?_⟩
 ·have:=pm.map (·.1);rw[e1]at this;exact this.nodup_iff.mpr nd
 ·obtain⟨q,hq,rfl⟩:=mem p hp;exact⟨xC _ hL,Ci (pos q hq) hL⟩
 ·obtain⟨q,hq,rfl⟩:=mem p hp;show ¬FIN<frB q.2 (iw L);have h1:frB q.2 (iw L)<=iw L:=by
   have g:=jM (t:=q.2) hL;have e:frB q.2 (iw L)*((Int.gcd q.2 (iw L):Nat):Int)=iw L:=Cg q.2 (iw L);have p0:=xD (t:=q.2) hL;have:=Int.mul_le_mul_of_nonneg_left (a:=1) (b:=((Int.gcd q.2 (iw L):Nat):Int)) (c:=frB q.2 (iw L)) (by lia) (by lia)
   lia
  lia
 ·rw[x5 pm,wY hL];show((iw L:Int):Rat) / ((iw L:Int):Rat)=1;have:=uk hL;grind
 ·obtain⟨q,hq,rfl⟩:=mem p hp;exact nm q hq
theorem Cs{x:V}{r:List V}:jO (x::r) (some 1) none=r:=by
 unfold jO;rw[HT.pX,show HT.sIx (x::r).length 0 (some 1)=min 1 (x::r).length from HT.sU _ _ 1];have:min 1 (x::r).length=1:=by rw[GV];lia
 rw[this];simp
theorem pH:∀{ws:List Int},(∀x∈ws,1<=x/\x<=9)->0<=ws.sum/\ws.sum<=9*ws.length
 | [],_=>by simp
 |x::ws,h=>by
  have a:=h x (Gy ..);have b:=pH fun y hy=>h y (Gs _ hy);rw[List.sum_cons,GV]
  lia
theorem uA:∀{ws:List Int},(∀x∈ws,0<x)->ws≠[]->0<ws.sum
 | [x],h,_=>by have:=h x (by simp);simpa using this
 |x::y::ws,h,_=>by
  have a:=h x (Gy ..);have b:=uA (ws:=y::ws) (fun z hz=>h z (Gs _ hz)) (by simp);rw[List.sum_cons]
  lia
theorem vK{K:Frag}{H:Hp}{vs:List V}{S0:Sh}(pr:Paired (ShE K H) vs S0):∃zs:LT.AN,vs=zs.map (fun z=>V.ref z.1)/\zs.map (·.2)=S0.map (·.1)/\(∀z∈zs,∃r,SqT K H z.1 (.str z.2::r))/\
  ∀ys:LT.AN,ys.Perm zs->∃S:Sh,S.Perm S0/\Paired (ShE K H) (ys.map fun z=>V.ref z.1) S/\S.map (·.1)=ys.map (·.2):=by
 obtain⟨zs,e,h⟩:∃zs:LT.AN,vs=zs.map (fun z=>V.ref z.1)/\Paired (fun(z:Addr×Str) (p:Str×Int×Int)=>z.2=p.1/\ShE K H (.ref z.1) p) zs S0:=by
  induction pr with
  |nil=>exact⟨[],rfl,.nil⟩
  | @cons v p _ _ a _ ih=>obtain⟨zs,e,h⟩:=ih;obtain⟨r,q,rfl,h1,h2⟩:=id a;exact⟨(r,p.1)::zs,by rw[GC,e],.cons ⟨rfl,a⟩ h⟩
 have nm:∀{zs:LT.AN}{S:Sh},Paired (fun(z:Addr×Str) (p:Str×Int×Int)=>z.2=p.1/\ShE K H (.ref z.1) p) zs S->zs.map (·.2)=S.map (·.1):=by
  intro zs S h
  induction h with
  |nil=>rfl
  |cons a _ ih=>rw[GC,GC,a.1,ih]
 have sh:∀{zs:LT.AN}{S:Sh},Paired (fun(z:Addr×Str) (p:Str×Int×Int)=>z.2=p.1/\ShE K H (.ref z.1) p) zs S->Paired (ShE K H) (zs.map fun z=>V.ref z.1) S:=by
  intro zs S h
  induction h with
  |nil=>exact .nil
  |cons a _ ih=>exact .cons a.2 ih
 refine⟨zs,e,nm h,fun z hz=>?_,fun ys py=>?_⟩
 ·obtain⟨p,_,e1,r,q,e2,h1,_⟩:=kU h hz;cases e2;rw[e1];exact⟨_,h1⟩
 ·obtain⟨S,h1,h2⟩:=tI py.symm h;exact⟨S,h1,sh h2,(nm h2).symm⟩
noncomputable def wsN(w:Int)(f:Nat)(ws:List Int)(n:Nat):Ws:=(List.range n).map fun k=>(g9 w ((f+k) % 6),ws.getD k 0)
theorem zf{w:Int}{f:Nat}{ws:List Int}{n:Nat}(hn:n<=6):((wsN w f ws n).map (·.1)).Nodup:=by unfold wsN;rw[HR];show((List.range n).map fun k=>g9 w ((f+k) % 6)).Nodup;rw[List.nodup_iff_pairwise_ne,HZ];refine List.Pairwise.imp_of_mem ?_ (List.nodup_iff_pairwise_ne.mp (List.nodup_range));intro a b ha hb ne e;have ha:=G7.mp ha;have hb:=G7.mp hb;have:=zX (Nat.mod_lt _ (by decide)) (Nat.mod_lt _ (by decide)) e;omega
theorem wV{w:Int}{f:Nat}{ws:List Int}:iw (wsN w f ws ws.length)=ws.sum:=by
 unfold iw wsN;rw[HR];congr 1;apply List.ext_getElem?;intro k;rw[GX];by_cases h:k<ws.length
 ·rw[List.getElem?_range h];simp[h]
 ·rw[List.getElem?_eq_none (by simpa using h),List.getElem?_eq_none (by lia)];rfl
theorem wW{w:Int}{f:Nat}{ws:List Int}(h:∀x∈ws,0<x):∀p∈wsN w f ws ws.length,0<p.2/\p.1∈(List.range 6).map (g9 w):=by intro p hp;obtain⟨k,hk,rfl⟩:=Gm.mp hp;have hk:=G7.mp hk;refine⟨h _ ?_,Gm.mpr ⟨(f+k) % 6,G7.mpr (Nat.mod_lt _ (by decide)),rfl⟩⟩;rw[List.getD_eq_getElem?_getD,GB hk];exact Ig hk
end L2
namespace L2
open PySem PySem.Spec PyProof.Rows
theorem lN{g:Nat->Option Col}{m:Nat}:∀{c:Nat},m<=c->(∀j,m<=j->j<c->g j=none)->bz g c=bz g m/\∀x,msk g c x=msk g m x
 | 0,hm,_=>by
  obtain rfl:m=0:=by lia
  exact⟨rfl,fun _=>rfl⟩
 |c+1,hm,h=>by
  by_cases e:m=c+1
  ·subst e;exact⟨rfl,fun _=>rfl⟩
  ·have ih:=lN (c:=c) (by lia) fun j h1 h2=>h j h1 (by lia);have hn:=h c (by omega) (by omega);refine⟨by rw[iY hn];exact ih.1,fun x=>?_⟩;rw[<-ih.2 x];show(if g c=some x then _ else _)=_;rw[Gu (by rw[hn];exact fun z=>nomatch z)]
def PlI(T:CT)(D:List (Col×Nat)):Prop:=Paired (fun(t:Col×Addr×V) (p:Col×Nat)=>t.1=p.1/\t.2.2=.int (p.2:Nat)) T D
theorem PlI.at{c:Col}{T:CT}{D:List (Col×Nat)}(hI:PlI T D):atT T c=(D.find? fun p=>decide (p.1=c)).map fun p=>V.int (p.2:Nat):=by
 induction hI with
 |nil=>exact rfl
 | @cons t p _ _ a b ih=>
  have ih:=ih;by_cases h:t.1=c
  ·have h':p.1=c:=a.1.symm.trans h;simp[atT,G9,h,h',a.2]
  ·have h':¬p.1=c:=fun z=>h (a.1.trans z);simpa[atT,G9,h,h']using ih
theorem vn{c:Col}:∀{D:List Col}{n j:Nat},D.Nodup->D[j]?=some c->(D.zipIdx n).find? (fun p=>decide (p.1=c))=some (c,n+j)
 | [],_,_,_,e=>by cases e
 |x::D,n,0,_,e=>by cases e;simp[List.zipIdx_cons,G9]
 |x::D,n,j+1,nd,e=>by
  rw[Hv]at nd;have ne:¬x=c:=fun z=>nd.1 (by rw[z];exact Gp e);rw[List.zipIdx_cons,G9];simp only[ne,decide_false];rw[vn (n:=n+1) (j:=j) nd.2 (by simpa using e)];congr 2
  lia
theorem yN{c:Col}{D:List Col}(h:¬c∈D)(n:Nat):(D.zipIdx n).find? (fun p=>decide (p.1=c))=none:=by rw[Ie];intro p hp z;have z':=GU z;exact h (by rw[<-z'];exact List.fst_mem_of_mem_zipIdx hp)
structure MsG(P:Program)(w:World)(K:Frag)(H0 H:Hp)(l1 dp:Addr)(D:List Col)(f:Col->Nat)(as:List Addr)(o:Obj)(T:CT):Prop where
 sm:ao H0 H
 n1:H0 l1=none
 n2:H0 dp=none
 na:∀a∈as,H0 a=none
 hl:H l1=some (.lst (as.map V.ref))
 nl:¬l1∈as
 nd:as.Nodup
 pr:Paired (fun(a:Addr) (c:Col)=>∃b,H a=some (.lst [.int (f c:Nat),.ref b])/\bX K H b c) as D
 co:m9 P w K H dp o T
 pl:PlI T D.zipIdx
variable{P:Program}{w:World}{K:Frag}{H0 H:Hp}{l1 dp:Addr}{D:List Col}{f:Col->Nat}{as:List Addr}{o:Obj}{T:CT}
theorem Paired.memR{α β:Type}{R S:α->β->Prop}{as:List α}{bs:List β}(h:Paired R as bs)(k:∀a b,a∈as->b∈bs->R a b->S a b):Paired S as bs:=by
 induction h with
 |nil=>exact .nil
 |cons a _ ih=>exact .cons (k _ _ (Gy ..) (Gy ..) a) (ih fun x y hx hy=>k x y (Gs _ hx) (Gs _ hy))
theorem MsG.len(h:MsG P w K H0 H l1 dp D f as o T):as.length=D.length:=Gw h.pr
theorem MsG.tlen(h:MsG P w K H0 H l1 dp D f as o T):T.length=D.length:=by have:=Gw h.pl;rw[this,List.length_zipIdx]
theorem MsG.place(h:MsG P w K H0 H l1 dp D f as o T)(nd:D.Nodup){c:Col}{j:Nat}(e:D[j]?=some c):atT T c=some (.int (j:Nat)):=by rw[h.pl.at,vn nd e,Ib];rfl
theorem MsG.noplace(h:MsG P w K H0 H l1 dp D f as o T){c:Col}(e:¬c∈D):atT T c=none:=by rw[h.pl.at,yN e];rfl
theorem MsG.congr{f':Col->Nat}(h:MsG P w K H0 H l1 dp D f as o T)(e:∀c,f c=f' c):MsG P w K H0 H l1 dp D f' as o T:=by obtain rfl:f=f':=funext e;exact h
theorem MsG.new(h:MsG P w K H0 H l1 dp D f as o T){c:Col}{b a5:Addr}{o':Obj}(hc:¬c∈D)(f0:f c=0)(hb:bX K H b c)(ho:ux P w o' (kR T c b (.int (as.length:Nat))))(h5:(upd H dp (gh dp o')) a5=none):
  MsG P w K H0 (upd (upd (upd H dp (gh dp o')) a5 (.lst [.int 0,.ref b])) l1 (.lst (as.map V.ref++[.ref a5]))) l1 dp (D++[c]) f (as++[a5]) o' (kR T c b (.int (as.length:Nat))):=by
 have c1:=h.co.1;have d1:l1≠dp:=jj h.hl c1 (fun z=>nomatch z);have t1:TK H (upd H dp (gh dp o')):=TK.obj c1;have a5d:a5≠dp:=fun z=>by rw[z,af]at h5;cases h5
 have h5':H a5=none:=by rw[<-h5,av a5d]
 have a5l:a5≠l1:=fun z=>by rw[z,h.hl]at h5';cases h5'
 have a5a:∀a∈as,a≠a5:=fun a ha z=>by obtain⟨c',_,b',e,_⟩:=kU h.pr ha;rw[z,h5']at e;cases e
 have ad:∀a∈as,a≠dp:=fun a ha=>by obtain⟨c',_,b',e,_⟩:=kU h.pr ha;exact jj e c1 (fun z=>nomatch z)
 have t2:TK (upd H dp (gh dp o')) (upd (upd H dp (gh dp o')) a5 (.lst [.int 0,.ref b])):=(ao.upd h5).tk;have hl2:(upd (upd H dp (gh dp o')) a5 (.lst [.int 0,.ref b])) l1=some (.lst (as.map V.ref)):=by rw[av a5l.symm,av d1];exact h.hl
 have t3:=TK.lst (o:=.lst (as.map V.ref++[.ref a5])) hl2;have pe:kR T c b (.int (as.length:Nat))=T++[(c,b,.int (as.length:Nat))]:=by
  unfold kR;rw[Gu];intro z;have e0:=h.noplace hc;unfold atT at e0;cases e:T.find? fun t=>decide (t.1=c)with
  |none=>rw[Ie]at e;obtain⟨t,ht,zt⟩:=Ih.mp z;exact e t ht zt
  |some t=>rw[e]at e0;cases e0
 have n5:H0 a5=none:=h.sm.free h5';refine⟨fun a u e=>?_,h.n1,h.n2,fun a ha=>?_,?_,fun z=>?_,?_,?_,⟨?_,ho,h.co.2.2.1,?_⟩,?_⟩
 ·rw[av (fun z=>by rw[z,h.n1]at e;cases e),av (fun z=>by rw[z,n5]at e;cases e),av (fun z=>by rw[z,h.n2]at e;cases e)];exact h.sm a u e
 ·rcases Gv.mp ha with z|z
  ·exact h.na a z
  ·rw[Gk.mp z];exact n5
 ·rw[af,GK];rfl
 ·rcases Gv.mp z with y|y
  ·exact h.nl y
  ·exact a5l (Gk.mp y).symm
 ·rw[List.nodup_append];exact⟨h.nd,by simp,fun a ha b hb z=>a5a a ha (by rw[z,Gk.mp hb])⟩
 ·refine Paired.app (Paired.memR h.pr fun a c' ha _ ⟨b',e,z⟩=>⟨b',?_,((z.tk t1).tk t2).tk t3⟩) (.cons ⟨b,?_,((hb.tk t1).tk t2).tk t3⟩ .nil)
  ·rw[av (fun z=>h.nl (by rw[<-z];exact ha)),av (a5a a ha),av (ad a ha)];exact e
  ·rw[av a5l,af,f0];rfl
 ·rw[av d1.symm,av a5d.symm,af]
 ·rw[pe];intro t ht;rcases Gv.mp ht with z|z
  ·exact(((h.co.2.2.2 t z).tk t1).tk t2).tk t3
  ·rw[Gk.mp z];exact((hb.tk t1).tk t2).tk t3
 ·rw[pe,List.zipIdx_append];refine Paired.app h.pl (.cons ⟨rfl,?_⟩ .nil);show V.int _=V.int _;rw[h.len];simp
theorem MsG.bump(h:MsG P w K H0 H l1 dp D f as o T)(ndD:D.Nodup){c:Col}{j x:Nat}{a b:Addr}(e:D[j]?=some c)(ea:as[j]?=some a)(ha:H a=some (.lst [.int (f c:Nat),.ref b]))(hb:bX K H b c):
  MsG P w K H0 (upd H a (.lst [.int (x:Nat),.ref b])) l1 dp D (fun y=>if y=c then x else f y) as o T:=by
 have ma:a∈as:=Gp ea;have t1:=TK.lst (o:=.lst [.int (x:Nat),.ref b]) ha;have al:l1≠a:=fun z=>h.nl (by rw[z];exact ma);have ad:dp≠a:=jj h.co.1 ha (fun z=>nomatch z);refine⟨fun a' u e'=>?_,h.n1,h.n2,h.na,?_,h.nl,h.nd,?_,⟨?_,h.co.2.1,h.co.2.2.1,fun t ht=>(h.co.2.2.2 t ht).tk t1⟩,h.pl⟩
 ·rw[av (fun z=>by rw[z,h.na a ma]at e';cases e')];exact h.sm a' u e'
 ·rw[av al];exact h.hl
 ·have key:∀{as:List Addr}{D:List Col}{j:Nat},Paired (fun(a:Addr) (c:Col)=>∃b,H a=some (.lst [.int (f c:Nat),.ref b])/\bX K H b c) as D->as.Nodup->D.Nodup->D[j]?=some c->as[j]?=some a->
    Paired (fun(a':Addr) (c':Col)=>∃b',(upd H a (.lst [.int (x:Nat),.ref b])) a'=some (.lst [.int ((if c'=c then x else f c':Nat):Nat),.ref b'])/\bX K (upd H a (.lst [.int (x:Nat),.ref b])) b' c') as D:=by
   intro as D j p
   induction p generalizing j with
   |nil=>intro _ _ e _;cases e
   | @cons a0 c0 as D r p ih=>
    intro n1 n2 e1 e2;rw[Hv]at n1 n2;cases j with
    |zero=>cases e1;cases e2;refine .cons ⟨b,by rw[af,Gz rfl],hb.tk t1⟩ (Paired.memR p fun a' c' ha' hc' ⟨b',e3,z⟩=>⟨b',?_,z.tk t1⟩);rw[av (fun z=>n1.1 (by rw[<-z];exact ha')),Gu (fun z=>n2.1 (by rw[<-z];exact hc'))];exact e3
    |succ j=>have e1':D[j]?=some c:=(by simpa using e1);have e2':as[j]?=some a:=(by simpa using e2);refine .cons ?_ (ih n1.2 n2.2 e1' e2');obtain⟨b',e3,z⟩:=r;have nc:¬c0=c:=fun z=>n2.1 (by rw[z];exact Gp e1');have na:a0≠a:=fun z=>n1.1 (by rw[z];exact Gp e2');exact⟨b',by rw[av na,Gu nc];exact e3,z.tk t1⟩
  exact key h.pr h.nd ndD e ea
 ·rw[av ad];exact h.co.1
theorem MsG.same{H':Hp}(h:MsG P w K H0 H l1 dp D f as o T)(s:ao H H'):MsG P w K H0 H' l1 dp D f as o T:=
 ⟨h.sm.trans s,h.n1,h.n2,h.na,s _ _ h.hl,h.nl,h.nd,Paired.imp (fun _ _ ⟨b,e,z⟩=>⟨b,s _ _ e,z.tk s.tk⟩) h.pr,⟨s _ _ h.co.1,h.co.2.1,h.co.2.2.1,fun t ht=>(h.co.2.2.2 t ht).tk s.tk⟩,h.pl⟩
theorem w9{cs:List Nat}(h:cs.Pairwise (·<·)){i c:Nat}(e:cs[i]?=some c)(t:Nat):t∈cs.take i<->t∈cs/\t<c:=by
 obtain⟨hi,e'⟩:=GA.mp e;rw[List.pairwise_iff_getElem]at h;constructor
 ·intro ht;obtain⟨k,hk,rfl⟩:=List.getElem_of_mem ht;rw[GR]at hk;rw[List.getElem_take];exact⟨Ig _,by rw[<-e'];exact h k i (by lia) hi (by lia)⟩
 ·rintro⟨ht,lt⟩;obtain⟨k,hk,rfl⟩:=List.getElem_of_mem ht;have ki:k<i:=G8 fun z=>by
   by_cases q:k=i
   ·subst q;lia
   ·have:=h i k hi hk (by lia)
    lia
  exact List.mem_take_iff_getElem.mpr ⟨k,by lia,rfl⟩
theorem zH{cs:List Nat}(h:cs.Pairwise (·<·)){i c:Nat}(e:cs[i]?=some c)(t:Nat):t∈cs.take (i+1)<->t∈cs/\t<c+1:=by
 rw[GF,e,G3,Gv,w9 h e,Gk];constructor
 ·rintro(⟨a,b⟩|rfl)
  ·exact⟨a,by omega⟩
  ·exact⟨Gp e,by omega⟩
 ·rintro⟨a,b⟩;by_cases z:t=c
  ·exact .inr z
  ·exact .inl ⟨a,by lia⟩
theorem nS(g:Nat->Option Col):∀i,(bz g i).length<=i
 | 0=>G1 _
 |i+1=>by
  have ih:=nS g i;cases e:g i with
  |none=>rw[iY e];lia
  |some c=>
   by_cases h:c∈bz g i
   ·rw[mZ e h];omega
   ·rw[j6 e h,Gn,HC];lia
end L2
namespace L2
open PySem PySem.Spec PyProof.Rows LM
theorem C6(a b:Nat):∃r:Nat,Builtin.bitXor (a:Int) (b:Int)=(r:Nat):=by
 refine⟨(a|||b)-(a&&& b),?_⟩;show Builtin.bitOr (a:Int) b-Builtin.bitAnd (a:Int) b=_;rw[My.nU,My.fb];have h1:a&&& b<=a:=Nat.and_le_left;have h2:a<=a|||b:=Nat.left_le_or
 lia
structure Plt where
 g:Nat
 S:Sh
 R:cw
 last:Int
def PlE(K:Frag)(H:Hp)(v:V)(p:Plt):Prop:=∃l ls lr,v=.ref l/\SqT K H l [.int (p.g:Nat),.ref ls,.ref lr,.int p.last]/\ShT K H ls p.S/\StrT K H lr p.R
theorem PlE.tk{K:Frag}{H H':Hp}{v:V}{p:Plt}(t:TK H H')(h:PlE K H v p):PlE K H' v p:=by obtain⟨l,ls,lr,e,h1,h2,h3⟩:=h;exact⟨l,ls,lr,e,t.sq h1,h2.tk t,h3.tk t⟩
structure wR(ss:List Str)(rs:List (List Key))(p:Plt):Prop where
 lt:p.g<2^64
 gs:GS ss p.S
 st:∃f,bq f p.R/\(∀i,i<64->((f i).isSome=true<->p.g.testBit i=true))/\∀i c,f i=some c->c.length<=12/\∀r∈c,r∈rs
noncomputable def plD(p:Plt):PyData:=.tuple [.int (p.g:Nat),shD p.S,uB p.R,.int p.last]
theorem PlE.isD{K:Frag}{H:Hp}{v:V}{p:Plt}(h:PlE K H v p):IsD K H (plD p) v:=by obtain⟨l,ls,lr,rfl,h1,h2,h3⟩:=h;exact .tup h1 (.cons (.int _) (.cons h2.isD (.cons h3.isD (.cons (.int _) .nil))))
theorem PlE.lay{K:Frag}{H:Hp}{v:V}{p:Plt}{ss:List Str}{rs:List (List Key)}(h:PlE K H v p)(o:wR ss rs p)(hs:∀x∈ss,PyData.canLay0 (.str x)=true):(plD p).canLay0=true:=by obtain⟨l,ls,lr,rfl,h1,h2,h3⟩:=h;have a:=DU (S:=p.S) fun q hq=>hs _ (o.gs.nm q hq);have b:(uB p.R).canLay0=true:=u6 h3.lay;show(PyData.canLay0 (.int (p.g:Nat))&&((shD p.S).canLay0&&((uB p.R).canLay0&&(PyData.canLay0 (.int p.last)&&true))))=true;rw[a,b];rfl
theorem ud(p:Plt):(plD p).depth<=6:=by
 have a:(shD p.S).depth<=4:=Nat.succ_le_succ (xH p.S);have b:=AJ p.R;show max _ (max (shD p.S).depth (max (uB p.R).depth (max _ 0)))+1<=6;have c:∀i:Int,(PyData.int i).depth<=1:=fun _=>GP rfl;have c1:=c (p.g:Nat);have c2:=c p.last
 lia
theorem jR:∀{ds:List PyData},(∀d∈ds,Pln d)->vD ds
 | [],_=>.nil
 |d::ds,h=>.cons (h d (Gy ..)) (jR fun e he=>h e (Gs _ he))
theorem xh{S:Sh}(h:S.length<=1000):Pln (shD S):=.tup (by rw[Gh];exact h) (jR fun d hd=>by
 obtain⟨p,_,rfl⟩:=Gm.mp hd
 exact .tup (GP rfl) (.cons (.str _) (.cons (.tup (GP rfl) (.cons (.int _) (.cons (.int _) .nil))) .nil)))
theorem BH{r:List Key}(h:r.length<=1000):Pln (.tuple (r.map gX)):=.tup (by rw[Gh];exact h) (jR fun d hd=>by
 obtain⟨k,_,rfl⟩:=Gm.mp hd;cases k with
 |inl i=>exact .int i
 |inr x=>exact .str x)
theorem xi{c:Col}(h:c.length<=1000)(hr:∀r∈c,r.length<=1000):Pln (lO c):=.tup (by rw[Gh];exact h) (jR fun d hd=>by
 obtain⟨r,hr',rfl⟩:=Gm.mp hd
 exact BH (hr r hr'))
theorem eE.yy{r:List Key}(h:eE r):r.length<=1000:=by obtain⟨_,_,_,_,_,rfl⟩:=h;show 5<=1000;decide
theorem wR.pln{ss:List Str}{rs:List (List Key)}{p:Plt}(o:wR ss rs p)(hs:ss.length<=1000)(hb:∀r∈rs,eE r):Pln (plD p):=by
 obtain⟨f,h1,h2,h3⟩:=o.st;have a:Pln (shD p.S):=xh (G0 o.gs.len hs)
 have b:Pln (uB p.R):=.tup (by rw[Gh];exact G0 h1.len (by decide)) (jR fun d hd=>by
  obtain⟨q,hq,rfl⟩:=Gm.mp hd;obtain⟨q1,q0,qb⟩:=h1.ok q hq;have l1:cb q.1<64:=f9 q1 (by decide) q0;have e:=(qb _ l1).mp (cM q1 q0).1;obtain⟨c1,c2⟩:=h3 _ _ e
  exact .tup (GP rfl) (.cons (.int _) (.cons (xi (by lia) fun r hr=>(hb r (c2 r hr)).yy) .nil)))
 exact .tup (GP rfl) (.cons (.int _) (.cons a (.cons b (.cons (.int _) .nil))))
def Dis(a b:Nat):Prop:=∀j,¬(a.testBit j=true/\b.testBit j=true)
theorem Dis.symm{a b:Nat}(h:Dis a b):Dis b a:=fun j z=>h j ⟨z.2,z.1⟩
theorem rP{w h r:Nat}{ps:List Nat}(a:iM w h r ps)(hr:r<2^64):(∀p∈ps,p≠0/\Sub p r)/\ps.Pairwise Dis:=by
 induction a with
 |nil=>exact⟨fun _ z=>(nomatch z),.nil⟩
 | @cons r p ps z cp _ ih=>
  obtain⟨i1,i2⟩:=ih (nQ hr);refine⟨fun q hq=>?_,?_⟩
  ·rcases GH.mp hq with rfl|hq
   ·exact⟨(qx hr z cp).1,fun j hj=>cp.sub hj⟩
   ·refine⟨(i1 q hq).1,fun j hj=>?_⟩;have:=(i1 q hq).2 j hj;rw[eO,HY]at this;exact this.1
  ·rw[List.pairwise_cons];refine⟨fun q hq j ⟨h1,h2⟩=>?_,i2⟩;have:=(i1 q hq).2 j h2;rw[eO,h1,Bool.not_true,Bool.and_false]at this;cases this
theorem zD(n c:Nat)(hc:c<2^n):2^n-1-c=dif (2^n-1) c:=by
 unfold dif;have:(2^n-1)&&& c=c:=by rw[Nat.and_comm,Nat.and_two_pow_sub_one_eq_mod,Nat.mod_eq_of_lt hc]
 rw[this]
theorem wL{w h c:Nat}{ps qs:List Nat}(hw:0<w)(hc:c<2^(w*h))(h64:w*h<=64)(a:iM w h c ps)(b:iM w h (dif (2^(w*h)-1) c) qs):
  (∀p∈ps++qs,p≠0/\p<2^(w*h))/\(ps++qs).Pairwise Dis/\(∀p∈ps++qs,∃r,r<2^(w*h)/\∀k,p.testBit k=true->cX w h r k p)/\ps.length<=64/\qs.length<=64:=by
 have le:2^(w*h)<=2^64:=Hb (by decide) h64;have pos:0<2^(w*h):=Nat.two_pow_pos _;have hd:dif (2^(w*h)-1) c<2^(w*h):=nQ (by omega);obtain⟨a1,a2⟩:=rP a (Gx hc le);obtain⟨b1,b2⟩:=rP b (Gx hd le);have cl:∀r,g7 w h r r:=fun r j i _ _ z=>z;have sb:∀r,LM.Sub r r:=fun r j z=>z;have ma:=(a.mem hw hc h64 (cl c) (sb c)).1;have mb:=(b.mem hw hd h64 (cl _) (sb _)).1;refine⟨fun p hp=>?_,?_,fun p hp=>?_,a.len (by decide) (Gx hc le),b.len (by decide) (Gx hd le)⟩
 ·rcases Gv.mp hp with z|z
  ·exact⟨(a1 p z).1,lI fun j hj=>gg hc ((a1 p z).2 j hj)⟩
  ·exact⟨(b1 p z).1,lI fun j hj=>gg hd ((b1 p z).2 j hj)⟩
 ·rw[List.pairwise_append];refine⟨a2,b2,fun p hp q hq j ⟨h1,h2⟩=>?_⟩;have z1:=(a1 p hp).2 j h1;have z2:=(b1 q hq).2 j h2;rw[eO,z1,Bool.not_true,Bool.and_false]at z2;cases z2
 ·rcases Gv.mp hp with z|z
  ·exact⟨c,hc,ma p z⟩
  ·exact⟨_,hd,mb p z⟩
structure qE(w h:Nat)(ss:List Str)(rs:List (List Key))(ps:List Plt):Prop where
 ok:∀p∈ps,wR ss rs p/\p.g≠0/\p.g<2^(w*h)/\1<=p.last/\p.last<=1000000000
 len:ps.length<=8
 ap:(ps.map (·.g)).Pairwise Dis
 one:∀p∈ps,∃r,r<2^(w*h)/\∀k,p.g.testBit k=true->cX w h r k p.g
 bur:∀r∈rs,eE r
 r13:rs.length=13
theorem qE.rev{w h:Nat}{ss:List Str}{rs:List (List Key)}{ps:List Plt}(o:qE w h ss rs ps):qE w h ss rs ps.reverse:=by refine⟨fun p hp=>o.ok p (List.mem_reverse.mp hp),by rw[List.length_reverse];exact o.len,?_,fun p hp=>o.one p (List.mem_reverse.mp hp),o.bur,o.r13⟩;rw[List.map_reverse,List.pairwise_reverse];exact o.ap.imp fun z=>z.symm
theorem pZ{K:Frag}{H:Hp}{xs:List V}{ps:List Plt}(hI:Paired (PlE K H) xs ps):ff K H (ps.map plD) xs:=by
 induction hI with
 |nil=>exact .nil
 |cons a b ih=>exact .cons a.isD (ih)
theorem mE:∀{ps:List Plt},(∀p∈ps,(plD p).canLay0=true)->PyData.canLayAll0 (ps.map plD)=true
 | [],_=>rfl
 |p::ps,h=>by show((plD p).canLay0&&PyData.canLayAll0 (ps.map plD))=true;rw[h p (Gy ..),mE fun q hq=>h q (Gs _ hq)];rfl
theorem xg:∀(ps:List Plt),PyData.depthAll (ps.map plD)<=6
 | []=>G1 _
 |p::ps=>by
  have a:=ud p;have b:=xg ps;show max (plD p).depth (PyData.depthAll (ps.map plD))<=6
  lia
theorem vT{K:Frag}{H:Hp}{xs:List V}{ps:List Plt}(hI:Paired (PlE K H) xs ps):Paired (HdE K H) xs (ps.map (·.g)):=by
 induction hI with
 |nil=>exact .nil
 |cons hI0 b ih=>obtain⟨l,_,_,e,h,_⟩:=hI0;exact .cons ⟨l,_,e,h⟩ (ih)
theorem Paired.right{α β:Type}{R:α->β->Prop}{as:List α}{bs:List β}(h:Paired R as bs){b:β}(hb:b∈bs):∃a∈as,R a b:=by
 induction h with
 |nil=>cases hb
 |cons x _ ih=>
  rcases GH.mp hb with e|e
  ·subst e;exact⟨_,Gy ..,x⟩
  ·obtain⟨a,h1,h2⟩:=ih e;exact⟨a,Gs _ h1,h2⟩
end L2
namespace L2
open PySem PySem.Spec PyProof.Rows
def DKp(h h':Heap):Prop:=∀b o,h.get? b=some o->∃o',h'.get? b=some o'/\o'.dict=o.dict
theorem DKp.refl(h:Heap):DKp h h:=fun _ o e=>⟨o,e,rfl⟩
theorem DKp.trans{h h1 h2:Heap}(a:DKp h h1)(b:DKp h1 h2):DKp h h2:=fun x o e=>by obtain⟨o1,e1,d1⟩:=a x o e;obtain⟨o2,e2,d2⟩:=b x o1 e1;exact⟨o2,e2,d2.trans d1⟩
theorem DKp.push(h:Heap)(o:Obj):DKp h (h.push o):=fun _ o' e=>⟨o',Gi _ e,rfl⟩
def Ex(f:Obj->Obj):Prop:=∀o,(f o).dict=o.dict/\(f o).isFreed=o.isFreed
theorem DKp.update{f:Obj->Obj}(hf:Ex f)(h:Heap)(a:Addr):DKp h (h.update a f):=fun b o e=>by
 by_cases z:a=b
 ·subst z;obtain⟨_,e2⟩:=Heap.get?_some_iff.mp e;exact⟨f o,Ho f e (by rw[(hf o).2];exact e2),(hf o).1⟩
 ·exact⟨o,by rw[Hf _ _ z];exact e,rfl⟩
inductive bP{α:Type}:Sem α->Prop
 |pure (a:α):bP (.pure a)
 |raise (e:Value):bP (.raise e)
 |unsup (w:String):bP (.unsupported w)
 |rule {t:String} {k:Unit->Sem α}:(∀u,bP (k u))->bP (.rule t k)
 |load {a:Addr} {p:Option Value} {k:Obj->Sem α}:(∀o,bP (k o))->bP (.load a p k)
 |update {a:Addr} {p:Option Value} {f:Obj->Obj} {k:Unit->Sem α}:Ex f->(∀u,bP (k u))->bP (.update a p f k)
 |alloc {o:Obj} {k:Addr->Sem α}:(∀a,bP (k a))->bP (.alloc o k)
 |point {l:List Value} {k:Unit->Sem α}:(∀u,bP (k u))->bP (.point l k)
 |register {a:Addr} {k:Unit->Sem α}:bP (.register a k)
 |stack {k:List (Code×Pos)->Sem α}:(∀l,bP (k l))->bP (.stack k)
theorem bP.wp{α:Type}{M:Model}{Γ:PySem.Ctx}{t:Sem α}(m:bP t):∀{Q:α->Pos->Shared->Prop}{E:Value->Pos->Shared->Prop}{p:Pos}{s:Shared}{h0:Heap},DKp h0 s.heap->Sem.wp M Γ t Q E p s->
  Sem.wp M Γ t (fun a p' s'=>Q a p' s'/\DKp h0 s'.heap) (fun e p' s'=>E e p' s'/\DKp h0 s'.heap) p s:=by
 induction m with
 |pure a=>intro Q E p s h0 d h;exact⟨h,d⟩
 |raise e=>intro Q E p s h0 d h;exact⟨h,d⟩
 |unsup w=>intro Q E p s h0 d h;exact h
 |rule _ ih=>intro Q E p s h0 d h;exact ih () d h
 |load _ ih=>intro Q E p s h0 d h;obtain⟨o,ho,h⟩:=h;exact⟨o,ho,ih o d h⟩
 |update sf _ ih=>intro Q E p s h0 d h;obtain⟨ha,h⟩:=h;exact⟨ha,ih () (d.trans (DKp.update sf _ _)) h⟩
 |alloc _ ih=>intro Q E p s h0 d h;exact ih _ (d.trans (DKp.push _ _)) h
 |point _ ih=>intro Q E p s h0 d h;exact ih () d h
 |register=>intro Q E p s h0 d h;exact h
 |stack _ ih=>intro Q E p s h0 d h;exact ih _ d h
theorem bP.any{α:Type}{M:Model}{A:Around}{t:Sem α}{Q:α->Shared->Prop}{E:Value->Shared->Prop}{s:Shared}(m:bP t)(h:wpAny M A t Q E s):wpAny M A t (fun a s'=>Q a s'/\DKp s.heap s'.heap) (fun e s'=>E e s'/\DKp s.heap s'.heap) s:=
 fun Γ p hΓ=>m.wp (DKp.refl _) (h Γ p hΓ)
theorem bP.bind{α β:Type}{t:Sem α}{f:α->Sem β}(m:bP t)(h:∀a,bP (f a)):bP (t>>= f):=by
 show bP (Sem.bind t f)
 induction m with
 |pure a=>exact h a
 |raise e=>exact .raise e
 |unsup w=>exact .unsup w
 |rule _ ih=>exact .rule ih
 |load _ ih=>exact .load ih
 |update sf _ ih=>exact .update sf ih
 |alloc _ ih=>exact .alloc ih
 |point _ ih=>exact .point ih
 |register=>exact .register
 |stack _ ih=>exact .stack ih
theorem uD(f:Array Value->Array Value):Ex (Obj.mapFields f):=fun o=>by obtain⟨c,d,dt,s⟩:=o;cases dt<;>exact⟨rfl,rfl⟩
theorem lH (v : Value) (i : Nat) : bP (field v i) := by
  unfold field fieldsOf
  refine bP.bind ?_ fun vs => ?_
  · cases v <;> first
      | exact .unsup _
      | (refine bP.bind (.load fun o => .pure _) fun o => ?_
         split
         · exact .pure _
         · exact .unsup _)
  · split
    · exact .pure _
    · exact .unsup _
theorem kF (v : Value) (i : Nat) (x : Value) : bP (setField v i x) := by
  unfold setField updateField
  cases v <;> first
    | exact .unsup _
    | (refine bP.bind (.load fun o => .pure _) fun o => ?_
       split
       · split
         · exact .update (uD _) fun _ => .pure _
         · exact .unsup _
       · exact .unsup _)
theorem gV(v:Value)(f:Option Addr):bP (setFlight v f):=by
 unfold setFlight;refine bP.bind (lH _ _) fun tb=>?_;split
 ·exact kF _ _ _
 ·exact .pure _
theorem qj(ty:String)(vs:List Value):bP (newFields ty vs):=by
 unfold newFields newObj newObjAsIs;dsimp only;split
 ·exact bP.bind (.unsup _) fun _=>bP.bind (.alloc fun a=>.pure _) fun a=>.pure _
 ·exact bP.bind (.alloc fun a=>.pure _) fun a=>.pure _
theorem lG:bP stack:=.stack fun l=>.pure _
theorem yw(a:Addr):bP (load a):=.load fun o=>.pure _
theorem uZ(env:Env)(outer:List Env):bP (behindIsImport env outer):=by
 unfold behindIsImport
 repeat' first
  |exact .pure _
  |exact .unsup _
  |exact lH _ _
  |split
  |refine bP.bind ?_ fun _=>?_
theorem u3:bP underTheClaimsCaller:=bP.bind lG fun _=>.pure _
theorem yx(env:Env)(b:Bool)(l:List Env):bP (keptBack env b l):=by
 unfold keptBack
 repeat' first
  |exact .pure _
  |exact .unsup _
  |exact u3
  |split
  |refine bP.bind ?_ fun _=>?_
theorem qi:∀l:List Env,bP (readyFrames l)
 | []=>.pure _
 |env::outer=>by
  have ih:=qi outer;unfold readyFrames
  repeat' first
   |exact .pure _
   |exact .unsup _
   |exact yw _
   |exact uZ _ _
   |exact yx _ _ _
   |exact ih
   |exact .update (fun o=>⟨rfl,by obtain⟨c,d,dt,s⟩:=o;cases dt<;>rfl⟩) fun _=>.pure _
   |split
   |refine bP.bind ?_ fun _=>?_
   |dsimp only
theorem tV(env:Env):bP (PySem.frameOf env):=by
 unfold PySem.frameOf frameEnvs;refine bP.bind (bP.bind lG fun _=>.pure _) fun l=>bP.bind ?_ fun r=>?_
 ·generalize List.dropWhile _ l=es;cases es with
  |nil=>exact .pure _
  |cons e es=>exact bP.bind (qi _) fun _=>.pure _
 ·split
  ·exact .pure _
  ·exact .unsup _
theorem wd(f:Addr)(b:Bool):bP (entryPlaceOf f b):=by
 unfold entryPlaceOf;refine bP.bind lG fun l=>?_;split
 ·exact .pure _
 ·exact .pure _
theorem rX(v:Value)(env:Env):bP (noteFrame v env):=by
 unfold noteFrame EntryCells.newEntry
 repeat' first
  |exact .pure _
  |exact .unsup _
  |exact lH _ _
  |exact kF _ _ _
  |exact tV _
  |exact wd _ _
  |exact qj _ _
  |split
  |refine bP.bind ?_ fun _=>?_
  |dsimp only
theorem mJ(env:Env)(v:Value):bP (leaving env v):=bP.bind (rX _ _) fun _=>gV _ _
def uu(K:Frag)(C:Addr):Prop:=∃fI,PySem.W.jN K C PySem.W.vErr4 "ValueError.__new__" fI=true
theorem pA{K:Frag}{h:Heap}{C:Addr}(X:K.In h)(z:uu K C):
  ∃tl N nm qn bs hd sn sub ab col dd k0 k1 k2 k3 k5,h.get? C=some (excClassObj nm qn C N bs tl hd sn sub ab col dd k0 k1 k2 k3 k5 "ValueError.__new__")/\OwnTail h vErr tl/\∀b r,mroIn K C b=some r->(Value.ref C::tl).contains b=r:=by
 obtain⟨fI,z⟩:=z;obtain⟨tl,N,nm,qn,bs,hd,sn,sub,ab,col,dd,k0,k1,k2,k3,k5,mN,h1,_,_,h4,h5⟩:=PySem.W.lM X z;exact⟨tl,N,nm,qn,bs,hd,sn,sub,ab,col,dd,k0,k1,k2,k3,k5,h1,h4,h5⟩
def oM(h:Heap)(x:Addr)(od:Option Addr):Prop:=∃o,h.get? x=some o/\o.dict=od
theorem oM.kp{h h':Heap}{x:Addr}{od:Option Addr}(d:oM h x od)(k:DKp h h'):oM h' x od:=by obtain⟨o,e,ed⟩:=d;obtain⟨o',e',ed'⟩:=k x o e;exact⟨o',e',ed'.trans ed⟩
noncomputable def CXn(P:Program)(w:World):CXT:=fun outer H s E e s'=>∃x C T H' a0 od,e=.ref x/\s'.os=s.os/\AllBare s'.gens/\Un (frs outer) [] H H' s.heap s'.heap/\HOk P w H' s'.heap/\
 s.heap.get? x=none/\s.heap.get? T=none/\H' x=none/\H' T=none/\Trc s'.heap x T (.ref C) a0/\oM s'.heap x od/\E (.ref C) od H'
noncomputable def mX(H:Hp)(x:Addr):Hp:=fun b=>if b=x then none else H b
theorem mW(H:Hp)(x:Addr):mX H x x=none:=Gz rfl
theorem fX{H:Hp}{x b:Addr}(h:b≠x):mX H x b=H b:=Gu h
section
variable{X:Cx}{pins:List (Addr×Obj)}{σ:St}{H:Hp}{s:Shared}
theorem Inv.untrackO{x C:Addr}{d:Option Addr}(I:Inv X pins σ H s)(hx:H x=some (XO x C d)):Inv X pins σ (mX H x) s:=by
 have nt:∀b xs,H b=some (.tup xs)->b≠x:=fun b xs e z=>by rw[z,hx]at e;cases e
 have no:∀b y,H b=some (.own y)->b≠x:=fun b y e z=>by rw[z,hx]at e;cases e
 have dn:∀b,H b=none->mX H x b=none:=fun b e=>by
  unfold mX;split
  ·rfl
  ·exact e
 refine⟨I.ok,I.os,I.bare,⟨I.base.keep,I.base.slot,fun b o' e1 n hx'=>dn b (I.base.free b o' e1 n hx'),I.base.there,fun b xs e1=>?_,fun b o' u e1=>?_,fun b ps e1=>?_⟩,I.loc,I.cell,dn _ I.free,fun y c e1=>dn _ (I.freeC y c e1),fun p hp=>?_,fun b u e1=>?_,I.len⟩
 ·have q:=I.base.tups b xs e1;rw[fX (nt b _ q)];exact q
 ·have q:=I.base.frzs b o' u e1;rw[fX (fun z=>by rw[z,hx]at q;cases q)];exact q
 ·obtain⟨more,q⟩:=I.base.tbls b ps e1;exact⟨more,by rw[fX (fun z=>by rw[z,hx]at q;cases q)];exact q⟩
 ·obtain⟨a1,a2,a3⟩:=I.pin p hp;exact⟨a1,dn _ a2,a3⟩
 ·by_cases hb:b=x
  ·rw[hb,mW]at e1;cases e1
  ·rw[fX hb]at e1;refine(I.hok b u e1).stay (fun _ _ _ q=>q) (fun c q=>?_) fun c xs q=>?_
   ·rw[fX (no c _ q)];exact q
   ·rw[fX (nt c _ q)];exact q
theorem Inv.new{x:Addr}{o:HO}(I:Inv X pins σ H s)(hex:X.ex=[])(hx:H x=some o)(h0:X.H₀ x=none):X.s₀.heap.get? x=none:=by
 cases q:X.s₀.heap.get? x with
 |none=>rfl
 |some ob=>have:=I.base.free x ob q h0 (by rw[hex];simp);rw[hx]at this;cases this
end
section
variable{P:Program}{w:World}{K:Frag}{mg:Str->Option Value}{base:Heap}{N:List Str}{qual:Str}{scope:Scope}{f:Addr}{cd:Value}{A:Around}{outer:List Env}{s:Shared}{H:Hp}{E:XK}
 {pins:List (Addr×Obj)} {σ:St}
theorem C7{x T C:Addr}{a0:Value}{od:Option Addr}{H2 H':Hp}{s2 s':Shared}(I2:Inv (gZ (CXn P w) P w K mg base N qual scope f cd A outer s H E) pins σ H2 s2)(n1:s2.heap.get? x=none)(n2:s2.heap.get? T=none)
  (I:Inv (gZ (CXn P w) P w K mg base N qual scope f cd A outer s H E) pins σ H' s') (t:Trc s'.heap x T (.ref C) a0) (u1:H' x=none) (u2:H' T=none) (dc:oM s'.heap x od) (e:E (.ref C) od H'):
  (gZ (CXn P w) P w K mg base N qual scope f cd A outer s H E).xe (.ref x) s':=by
 obtain⟨p1,p2,p3,p4⟩:=I2.apart rfl n1;obtain⟨r1,r2,r3,r4⟩:=I2.apart rfl n2;refine Ha ((mJ _ _).any (wpAny_leaves_onW (Q:=fun _ s4=>∃h',s4={s' with heap:=h'}/\Heap.FlyingW (PySem.W.hideAll s'.heap (frs (gZ (CXn P w) P w K mg base N qual scope f cd A outer s H E).stack++[x,T])) outer x (.ref C) a0 h'/\s'.heap.UpToSlots h') (outer:=outer) I.ok.frames rfl (AA I t) fun h' fl us=>⟨h',rfl,fl,us⟩)) (fun _ s4 z=>?_) fun _ _ z=>z.1;obtain⟨⟨h',rfl,fl,us⟩,dk⟩:=z;have J:=I.landed (t':=s'.toks) p1 r1 u1 u2 p2 r2 p3 r3 p4 r4 fl.1 us
 obtain⟨T',t',q1,q2⟩:=pE I rfl rfl (as:=[x,T]) (fun b hb=>by
  rcases GH.mp hb with q|q
  ·subst q;exact⟨p1,u1⟩
  ·rw[Gk]at q;subst q;exact⟨r1,u2⟩) (fun b hb=>by obtain⟨_,o,ho,nf⟩:=J.stack.mem hb;exact⟨o,ho,nf⟩) fl.2.2.2
 exact⟨x,C,T',H',a0,od,rfl,J.os,J.bare,J.base,J.hok,p1,q1,u1,q2,t',dc.kp dk,e⟩
theorem iI{E':XK}(h:∀C o H,E' C o H->E C o H):Passes (CXn P w) (gZ (CXn P w) P w K mg base N qual scope f cd A outer s H E) E':=by rintro pins σ H2 s2 e s' I2 ⟨x,C,T,H',a0,od,rfl,os,bare,un,hok,n1,n2,u1,u2,t,dc,ee⟩;exact C7 I2 n1 n2 (I2.call' (ch:=[]) os un hok bare (fun _ z=>nomatch z)) t u1 u2 dc (h _ _ _ ee)
theorem jP{x C:Addr}{od:Option Addr}{H1:Hp}{s1:Shared}(I:Inv (gZ (CXn P w) P w K mg base N qual scope f cd A outer s H E) pins σ H1 s1)(hx:H1 x=some (XO x C od))(h0:H x=none)(ee:E (.ref C) od (mX H1 x)):
  (gZ (CXn P w) P w K mg base N qual scope f cd A outer s H E).xe (.ref x) s1:=by
 obtain⟨t0,ht0⟩:=(I.hok x _ hx).1;have I1:=I.untrackO hx;have p1:s.heap.get? x=none:=I.new rfl hx h0;have p2:∀p∈(gZ (CXn P w) P w K mg base N qual scope f cd A outer s H E).pn++pins,p.1≠x:=fun p hp z=>by have:=(I.pin p hp).2.1;rw[z,hx]at this;cases this
 have p3:∀y c,(gZ (CXn P w) P w K mg base N qual scope f cd A outer s H E).env.cells.lookup y=some c->c≠x:=fun y c e z=>by have:=I.freeC y c e;rw[z,hx]at this;cases this
 have p4:x≠(gZ (CXn P w) P w K mg base N qual scope f cd A outer s H E).env.locals:=fun z=>by have:=I.free;rw[<-z,hx]at this;cases this
 refine Ha ((mJ _ _).any (wpAny_leaving_firstW (Q:=fun _ s4=>∃h',s4={s1 with heap:=h'}/\Heap.LeftW (PySem.W.hideAll s1.heap (frs (envOfC qual scope s.heap.objs.size f cd::outer)++[x])) (envOfC qual scope s.heap.objs.size f cd::outer) x (.ref C) (.ref t0) s1.heap h')
  (base:=PySem.W.hideAll s1.heap (frs (envOfC qual scope s.heap.objs.size f cd::outer)++[x])) (outer:=outer) I.ok.frames (PySem.W.funFrames_hide I.stack fun env he a ha=>GI _ (List.mem_filterMap.mpr ⟨env,he,ha⟩)) rfl ht0 (fun b o q=>PySem.W.of_hideAll _ q) (PySem.W.hideAll_none _ (by simp)) rfl rfl rfl fun h' hL=>⟨h',rfl,hL⟩)) (fun _ s4 z=>?_) fun _ _ z=>z.1
 obtain⟨⟨h',rfl,k1,k2,k3,k4⟩,dk⟩:=z
 have J:Inv (gZ (CXn P w) P w K mg base N qual scope f cd A outer s H E) pins σ (mX H1 x) {s1 with heap:=h',toks:=s1.toks}:=I1.flown (ch:=[x]) (fun b hb=>by
   rw[Gk]at hb;subst hb;exact⟨p1,mW _ _,p4,p3,p2⟩)
  (fun b o hb hc e'=>k1 b o (PySem.W.hideAll_get _ e' fun z=>by
   rcases Gv.mp z with q|q
   ·exact hb q
   ·exact hc q)) (fun b o hb e'=>by
  obtain⟨_,o',ho,hnf⟩:=I.stack.mem hb;rw[e']at ho;cases ho
  exact k4 b o e' hnf)
 obtain⟨T',t',q1,q2⟩:=pE I1 rfl rfl (as:=[x]) (fun b hb=>by rw[Gk]at hb;subst hb;exact⟨p1,mW _ _⟩) (fun b hb=>by obtain⟨_,o,ho,nf⟩:=J.stack.mem hb;exact⟨o,ho,nf⟩) k3;exact⟨x,C,T',mX H1 x,_,od,rfl,J.os,J.bare,J.base,J.hok,p1,q1,mW _ _,q2,t',oM.kp ⟨_,ht0,rfl⟩ dk,ee⟩
end
section
variable{M:Model}{A:Around}{E:Value->Shared->Prop}{env:Env}{s:Shared}
theorem vR{x:Sem Value}{Q:Flow->Shared->Prop}(hh:A.handled=none)
  (h:wpAny M A x (fun v s1=>∃e t d C tl N nm qn bs hd sn sub ab col dd k0 k1 k2 k3 k5,v=.ref e/\s1.heap.get? C=some (excClassObj nm qn C N bs tl hd sn sub ab col dd k0 k1 k2 k3 k5 "ValueError.__new__")/\tl.contains (.type "BaseException")=true/\
   s1.heap.get? e=some {cls:=.ref C,dict:=d,data:=.fields #[.ref t,.none,.none,.none,.bool false,.none]}/\E (.ref e) s1) E s):wpAny M A (raiseStmt env (some x) none) Q E s:=by
 unfold raiseStmt;refine Gg (Ha h (fun v s1 h1=>?_) fun _ _ z=>z);obtain⟨e,t,d,C,tl,N,nm,qn,bs,hd,sn,sub,ab,col,dd,k0,k1,k2,k3,k5,rfl,hC,hb,he,hE⟩:=h1;have hcB:(Value.ref C::tl).contains (.type "BaseException")=true:=by rw[List.contains_cons,hb,Bool.or_true]
 obtain⟨hp,g,dr,tk,os⟩:=s1
 repeat (first|with_reducible refine HP he ?_|with_reducible refine HP hC ?_|(with_reducible refine wpAny_isSubtype_exc hC ?_;rw[hcB])|wp_step)
 exact wpAny_raiseNew_none hh hE
end
section
variable{X:Cx}
def FE(K:Frag)(t:TE)(W:Addr->Value->Option Addr->Hp->Prop):TS:=fun _ σ H=>t σ H fun v H1=>∃x C od,v=.ref x/\H1 x=some (XO x C od)/\uu K C/\W x (.ref C) od H1
theorem gB{e:Expr}{t:TE}{pos:Pos}{W:Addr->Value->Option Addr->Hp->Prop}(hc:X.calm=true)(he:PE X e t)
  (hw:∀pins σ H1 s1 x C od,Inv X pins σ H1 s1->H1 x=some (XO x C od)->W x (.ref C) od H1->X.xe (.ref x) s1):PS X (.Raise (some e) none pos) (FE X.K t W):=by
 intro pins s σ H D I h;rw[arm_exec_Raise];refine Gg (wpAny_standAt (vR (I.ok.hd hc) ?_));refine Gg (Ha (he pins s σ H _ I h) (fun v s1 z=>Gg (wpAny_standAt (Gj ?_))) fun _ _ z=>z);obtain⟨x,H1,I1,rv,a,C,od,rfl,hx,Z,q⟩:=z;cases rv;obtain⟨t0,ht0⟩:=(I1.hok a _ hx).1;obtain⟨tl,N,nm,qn,bs,hd,sn,sub,ab,col,dd,k0,k1,k2,k3,k5,hC,T,_⟩:=pA I1.kIn Z;exact⟨a,t0,od,C,tl,N,nm,qn,bs,hd,sn,sub,ab,col,dd,k0,k1,k2,k3,k5,rfl,hC,T.hasType rfl,ht0,hw pins σ H1 s1 a C od I1 hx q⟩
def RzW(H0:Hp)(E:XK):Addr->Value->Option Addr->Hp->Prop:=fun x cls od H1=>H0 x=none/\E cls od (mX H1 x)
structure DfN(P:Program)(w:World)(K:Frag)(mg:Str->Option Value)(base:Heap)(k:Nat)(x:Str)(ps:List Str)(sp:Sp):Prop where
 ex:∃f fd,ir P w K mg base (CXn P w) k f fd ps sp/\Binds K fd ps []/\mg x=some (.ref f)/\keepIn K (.ref f)=true
theorem Tx.dfN{P:Program}{w:World}{K:Frag}{mg:Str->Option Value}{base:Heap}{x:Str}{st:Stmt}{N ps:List Str}{k:Nat}{sp:Sp}(T:Tx K mg x st ps)(S:aA N ps (ak st))
  (len:∀vs H Q E,sp vs H Q E->vs.length=ps.length)
  (hbody:∀(f:Addr)(cdv:Value)(A:Around)(outer:List Env)(s:Shared)(H:Hp)(vs:List V)(Q:VK)(E:XK),cy k (A.deeper (envOfC x (ak st) s.heap.objs.size f cdv))->sp vs H Q E->
   ∃t,PSs (gZ (CXn P w) P w K mg base N x (ak st) f cdv A outer s H E) (bj st) t/\t {nx:=fun _ H'=>Q .non H',rt:=Q} (start N vs) H):DfN P w K mg base (k+1) x ps sp:=by
 obtain⟨f,fd,F,b,hm⟩:=T.ex;obtain⟨oc,od,kV,doc,pm,an,cdv,ct,osl,rfl,lk,hcd⟩:=id F.ex;exact⟨f,_,vm lk hcd S len fun A outer s H vs Q E hr h=>hbody f cdv A outer s H vs Q E hr h,b,hm,F.kp⟩
theorem vV{j k:Nat}{x:Str}{ps:List Str}{sp:Sp}{E:XK}{p pos:Pos}{e:Expr}{es:List Expr}{t:TA}(D:DfN X.prog X.w X.K X.mg X.base j x ps sp)(hr:cy k X.A)(hx:Passes (CXn X.prog X.w) X E)(ha:PA X (e::es) t)(hg:Gl X x:=by rfl)(hj:j<=k:=by decide)
  (hdb:(x==("__debug__":Str))=false:=by decide) (he:starEach (e::es) X.env=(false,eval e X.env)::starEach es X.env:=by rfl) (hpl:(backTo pos (starEach es X.env)).any (·.1)=false:=by rfl):
  PE X (.Call (.Name x p) (e::es) [] pos) (tCE sp E t):=by
 obtain⟨f,fd,F,b,hm,kp⟩:=D.ex;have h:=tH (ds:=[]) (dvs:=[]) (E:=E) (p:=p) (pos:=pos) F (hr.mono hj) hg hm kp b .nil hx ha hdb he hpl;have e1:lX sp [] E t=tCE sp E t:=by funext σ H Q;unfold lX tCE;simp only[GY]
 rw[e1]at h;exact h
end
def XBn(X:Cx)(pins:List (Addr×Obj))(W:XK):Value->Shared->Prop:=fun e s'=>∃x C T σ' H2 s2 H' a0 od,e=.ref x/\Inv X pins σ' H2 s2/\s2.heap.get? x=none/\s2.heap.get? T=none/\Inv X pins σ' H' s'/\
 Trc s'.heap x T (.ref C) a0/\H' x=none/\H' T=none/\oM s'.heap x od/\W (.ref C) od H'
noncomputable abbrev Cx.triedN(X:Cx)(pins:List (Addr×Obj))(W:XK):Cx:={X with pn:=X.pn++pins,xe:=XBn X pins W}
structure A8(K:Frag)(mg:Str->Option Value)(c:Str)(C:Addr):Prop where
 ok:uu K C
 ex:∃C',mg c=some (.ref C')/\uu K C'/\mroIn K C (.ref C')=some true
noncomputable def XN(x C:Addr)(od:Option Addr):HO:=.ext fun h=>∃o vs,h.get? x=some o/\o.cls=.ref C/\o.dict=od/\o.data=.fields vs
section
variable{X:Cx}{pins:List (Addr×Obj)}{σ:St}{H:Hp}{s:Shared}{W:XK}
theorem Inv.triedN(I:Inv X pins σ H s)(W:XK):Inv (X.triedN pins W) [] σ H s:=
 ⟨⟨I.ok.mod,I.ok.kind,I.ok.glob,I.ok.blt,I.ok.above,I.ok.inj,I.ok.has,I.ok.cab,I.ok.hd,I.ok.frames,I.ok.stk,I.ok.exf,I.ok.bs,I.ok.bsz,I.ok.noex,I.ok.exfs,I.ok.funs,I.ok.frf⟩,I.os,I.bare,I.base,I.loc,I.cell,I.free,I.freeC,fun p hp=>I.pin p (by simpa using hp),I.hok,I.len⟩
theorem Inv.untriedN{pins':List (Addr×Obj)}(I:Inv (X.triedN pins W) pins' σ H s):Inv X pins σ H s:=
 ⟨⟨I.ok.mod,I.ok.kind,I.ok.glob,I.ok.blt,I.ok.above,I.ok.inj,I.ok.has,I.ok.cab,I.ok.hd,I.ok.frames,I.ok.stk,I.ok.exf,I.ok.bs,I.ok.bsz,I.ok.noex,I.ok.exfs,I.ok.funs,I.ok.frf⟩,I.os,I.bare,I.base,I.loc,I.cell,I.free,I.freeC,fun p hp=>I.pin p (GI _ hp),I.hok,I.len⟩
theorem SP.untriedN{D:Ends}{f:Flow}{s':Shared}(h:SP (X.triedN pins W) [] D f s'):SP X pins D f s':=by
 cases f with
 |next=>obtain⟨σ',H',I,q⟩:=h;exact⟨σ',H',I.untriedN,q⟩
 |brk=>obtain⟨σ',H',I,q⟩:=h;exact⟨σ',H',I.untriedN,q⟩
 |cont=>obtain⟨σ',H',I,q⟩:=h;exact⟨σ',H',I.untriedN,q⟩
 |ret u=>obtain⟨v,σ',H',I,r,q⟩:=h;exact⟨v,σ',H',I.untriedN,r,q⟩
theorem ym{E':XK}(h:∀C o H,E' C o H->W C o H):Passes (CXn X.prog X.w) (X.triedN pins W) E':=by rintro pins' σ H2 s2 e s' I2 ⟨x,C,T,H',a0,od,rfl,os,bare,un,hok,n1,n2,u1,u2,t,dc,ee⟩;exact⟨x,C,T,σ,H2,s2,H',a0,od,rfl,I2.untriedN,n1,n2,(I2.call' (ch:=[]) os un hok bare (fun _ z=>nomatch z)).untriedN,t,u1,u2,dc,h _ _ _ ee⟩
theorem Inv.trackN{x C:Addr}{od:Option Addr}{o:Obj}{vs:Array Value}(I:Inv X pins σ H s)(n1:X.s₀.heap.get? x=none)(u1:H x=none)(p2:∀p∈X.pn++pins,p.1≠x)(p3:∀y c,X.env.cells.lookup y=some c->c≠x)(p4:x≠X.env.locals)
  (e:s.heap.get? x=some o) (hc:o.cls=.ref C) (hd:o.dict=od) (hv:o.data=.fields vs):Inv X pins σ (upd H x (XN x C od)) s:=by
 have nx:∀b u,H b=some u->b≠x:=fun b u e z=>by rw[z,u1]at e;cases e
 refine⟨I.ok,I.os,I.bare,⟨I.base.keep,I.base.slot,fun b o' e1 n hx=>?_,I.base.there,fun b xs e1=>?_,fun b o' u e1=>?_,fun b ps e1=>?_⟩,I.loc,I.cell,?_,fun y c e1=>?_,fun p hp=>?_,fun b u e1=>?_,I.len⟩
 ·rw[av (fun z=>by rw[z,n1]at e1;cases e1)];exact I.base.free b o' e1 n hx
 ·have q:=I.base.tups b xs e1;rw[av (nx b _ q)];exact q
 ·have q:=I.base.frzs b o' u e1;rw[av (nx b _ q)];exact q
 ·obtain⟨more,q⟩:=I.base.tbls b ps e1;exact⟨more,by rw[av (nx b _ q)];exact q⟩
 ·rw[av (HB p4)];exact I.free
 ·rw[av (p3 y c e1)];exact I.freeC y c e1
 ·obtain⟨a1,a2,a3⟩:=I.pin p hp;exact⟨a1,by rw[av (p2 p hp)];exact a2,a3⟩
 ·by_cases hb:b=x
  ·subst hb;rw[af]at e1;cases e1;exact⟨⟨o,vs,e,hc,hd,hv⟩,⟨o,e⟩,fun h1 h2 ⟨o1,v1,f1,f2⟩ k=>⟨o1,v1,k o1 f1,f2⟩⟩
  ·rw[av hb]at e1;refine(I.hok b u e1).stay (fun _ _ _ q=>q) (fun c q=>?_) fun c xs q=>?_
   ·rw[av (nx c _ q)];exact q
   ·rw[av (nx c _ q)];exact q
theorem yL{x T C:Addr}{a0:Value}{od:Option Addr}{H2 H':Hp}{s2 s':Shared}{h5:Heap}{c n:Str}{i:Nat}{cp hp:Pos}{b0:Stmt}{suite:List Stmt}{th:TS}{D:Ends}{rest:List ExceptHandler}(hst:X.stack=X.env::X.outer)(hex:X.ex=[])
  (hN:X.N.Nodup) (hi:X.N[i]?=some n) (hl:X.env.kindOf n=some .local)
  (I2:Inv X pins σ H2 s2) (n1:s2.heap.get? x=none) (n2:s2.heap.get? T=none) (I:Inv X pins σ H' s') (u1:H' x=none) (u2:H' T=none)
  (fl5:Heap.FlyingW (PySem.W.hideAll s'.heap (frs (X.env::X.outer)++[x,T])) (X.env::X.outer) x (.ref C) a0 h5) (us45:s'.heap.UpToSlots h5) (dc:oM h5 x od)
  (Z:A8 X.K X.mg c C) (hs:∀y,PSs (X.marked y) (b0::suite) th) (q:th (D.gone i) (σ.set i (some (.ref x))) (upd H' x (XN x C od))) (hg:Gl X c) (hdb:(c==("__debug__":Str))=false) {E:Value->Shared->Prop}:
  wpAny (model X.prog X.w) X.A (handleBy (.ref x) X.env (.ExceptHandler (some (.Name c cp)) (some n) (b0::suite) hp::rest)) (SP X pins D) E {s' with heap:=h5}:=by
 obtain⟨p1,p2,p3,p4⟩:=I2.apart hex n1;obtain⟨r1,r2,r3,r4⟩:=I2.apart hex n2;obtain⟨C',Zg,Zc,hm⟩:=Z.ex;have J:=I.landed (t':=s'.toks) p1 r1 u1 u2 p2 r2 p3 r3 p4 r4 (hst▸fl5.1) us45;obtain⟨oe,he,hcl⟩:=fl5.there;obtain⟨tl,N,nm,qn,bs,hd,sn,sub,ab,col,dd,k0,k1,k2,k3,k5,hC,_,hmr⟩:=pA J.kIn Z.ok;obtain⟨tl',N',nm',qn',bs',hd',sn',sub',ab',col',dd',j0,j1,j2,j3,j5,hC',T',_⟩:=pA J.kIn Zc;refine wpAny_handleBy_cons (codeAny_handlers_test (jX (X:=X.marked x) (J.marked x) hg Zg ?_ hdb)) (by intro z;cases z);refine qw hC hC' he hcl (T'.hasType rfl) (hmr _ _ hm) ?_;refine codeAny_handlers_suite_as ?_;refine Ha ((gV _ _).any (lands_againW (Q:=fun _ s4=>∃h6,s4={s' with heap:=h6}/\Heap.FlyingW (PySem.W.hideAll s'.heap (frs (X.env::X.outer)++[x,T])) (X.env::X.outer) x (.ref C) a0 h6/\h5.UpToSlots h6) fl5 fun h6 fl6 us6=>⟨h6,rfl,fl6,us6⟩)) (fun _ s4 z=>?_) fun _ _ z=>z.1;obtain⟨⟨h6,rfl,fl6,us6⟩,dk⟩:=z;have J6:=I.landed (t':=s'.toks) p1 r1 u1 u2 p2 r2 p3 r3 p4 r4 (hst▸fl6.1) (us45.trans us6);obtain⟨oe6,vs6,_,_,_,he6,⟨hcl6,_⟩,hv6,_⟩:=fl6.2.2.2;obtain⟨o7,e7,d7⟩:=dc.kp dk;have e76:o7=oe6:=G2 (e7.symm.trans he6);have J7:=J6.trackN (od:=od) p1 u1 p2 p3 p4 he6 hcl6 (by rw[<-e76];exact d7) hv6;refine pI (v:=.ref x) J7 hN hi (.inl hl) rfl (fun s8 J8=>?_) (.inr hl);refine Ha (hs x pins _ _ _ (D.gone i) (J8.marked x) q) (fun f s9 hq=>?_) (fun _ _ z=>False.elim z);exact Cd hN hi hl I.ok.kind (hq.unmarked I.ok)
def EF(K:Frag)(mg:Str->Option Value)(N:Nat)(tb:XK->TS)(c:Str)(m:Nat)(t1:TS):TS:=fun D σ H=>tb (fun cls od H2=>∃C,cls=.ref C/\A8 K mg c C/\
 ∀(x:Addr)(σ':St),σ'.length=N->H2 x=none->t1 (D.gone m) (σ'.set m (some (.ref x))) (upd H2 x (XN x C od))) D σ H
theorem BE{m L:Nat}{c nx:Str}{p1 q1 pos:Pos}{body:List Stmt}{b1:Stmt}{su1:List Stmt}{tb:XK->TS}{t1:TS}(hN:X.N.Nodup)(hn:X.N[m]?=some nx)(hl:X.env.kindOf nx=some .local)
  (hb:∀pins W,PSs (X.triedN pins W) body (tb W)) (h1:∀z,PSs (X.marked z) (b1::su1) t1)
  (hst:X.stack=X.env::X.outer:=by rfl) (hf:X.env.frame=some L:=by rfl) (hex:X.ex=[]:=by rfl) (hg1:Gl X c:=by rfl) (hd1:(c==("__debug__":Str))=false:=by decide):
  PS X (.Try body [.ExceptHandler (some (.Name c p1)) (some nx) (b1::su1) q1] [] [] pos) (EF X.K X.mg X.N.length tb c m t1):=by
 intro pins s σ H DD I h;refine wpAny_Try_except (Ha (hb pins _ [] s σ H DD (I.triedN _) h) (fun f s1 q=>?_) fun e s1 q=>?_)
 ·have q':=SP.untriedN q;cases f with
  |next=>exact wpAny_execs_nil q'
  |brk=>exact q'
  |cont=>exact q'
  |ret u=>exact q'
 ·obtain⟨x,C,T,σ',H2,s2,H',a0,od,rfl,I2,n1,n2,J,t,u1,u2,dc,C2,ec,Z,q⟩:=q;cases ec;have fl:=AA J t;rw[hst]at fl;refine Ha ((rX _ _).any (wpAny_looks_onW (Q:=fun _ s4=>∃h4,s4={s1 with heap:=h4}/\Heap.HeldW (PySem.W.hideAll s1.heap (frs (X.env::X.outer)++[x,T])) (X.env::X.outer) x (.ref C) a0 L h4/\s1.heap.UpToSlots h4) (outer:=X.outer) (by rw[J.ok.frames,hst]) hf fl fun h4 held us4=>⟨h4,rfl,held,us4⟩)) (fun _ s4 z=>?_) fun _ _ z=>z.1;obtain⟨⟨h4,rfl,held,us4⟩,dk4⟩:=z;refine Ha ((gV _ _).any (wpAny_landsW (Q:=fun _ s5=>∃h5,s5={s1 with heap:=h5}/\Heap.FlyingW (PySem.W.hideAll s1.heap (frs (X.env::X.outer)++[x,T])) (X.env::X.outer) x (.ref C) a0 h5/\h4.UpToSlots h5) held fun h5 fl5 us5=>⟨h5,rfl,fl5,us5⟩)) (fun _ s5 z=>?_) fun _ _ z=>z.1;obtain⟨⟨h5,rfl,fl5,us5⟩,dk5⟩:=z;exact yL hst hex hN hn hl I2 n1 n2 J u1 u2 fl5 (us4.trans us5) ((dc.kp dk4).kp dk5) Z h1 (q x σ' J.len u1) hg1 hd1
def EO(K:Frag)(ta:TE)(f:Str):TE:=fun σ H Q=>ta σ H fun x H1=>∃a C dx fs v,x=.ref a/\H1 a=some (XN a C (some dx))/\H1 dx=some (XD dx fs)/\RdX K C f/\fs.lookup f=some v/\Q v H1
theorem xm{K:Frag}{e:Expr}{f:Str}{pos:Pos}{ta:TE}(hK:X.K=K)(he:PE X e ta)(hb:attributeBase e f X.env (eval e X.env)=eval e X.env:=by rfl):PE X (.Attribute e f pos) (EO K ta f):=by
 subst hK;intro pins s σ H Q I h;refine xT hb (thn (he pins s σ H _ I h) fun u s1 hPz=>?_);obtain⟨x,H1,I1,rx,a,C,dx,fs,v,ex,hx,hd,R,l,q⟩:=hPz;subst ex;obtain rfl:u=Value.ref a:=rx;obtain⟨o,vs,e1,e2,e3,e4⟩:=(I1.hok a _ hx).1;obtain⟨mA,n0,r0,w0⟩:=(I1.hok dx _ hd).1;obtain⟨u',hu,ru⟩:=iq.some_of (v:=v) (o:=mA f) (by rw[<-l];exact r0 f);have nc:PySem.W.notCls o=true:=by obtain⟨c,d,dt,sl⟩:=o;cases e4;rfl
 obtain⟨hp,g,d,tk,os⟩:=s1;exact PySem.W.F8 I1.kIn e1 e2 nc e3 n0 hu R.pl R.ga R.gt R.na (PySem.W.handedOut_of (r8 ru)) ⟨v,H1,I1.tok _,ru,q⟩
end
structure Ge(K:Frag)(mg:Str->Option Value)(c:Str)(L:Addr)(m:Str)(f:Addr):Prop where
 mg:mg c=some (.ref L)
 rd:PySem.W.readsIn K L (.type "type")=true
 sp:PySem.W.specialIn K (.ref L) "__getattribute__"=some (some (.builtin "type.__getattribute__"))
 fc:PySem.W.findCls K (.ref L) (.type "type") m=some (.val (.ref f))
 kp:keepIn K (.ref f)=true
section
variable{X:Cx}{CX:CXT}{k:Nat}{f C:Addr}{fd:FuncData}{ps:List Str}{sp:Sp}{dvs:List V}{ds:List Value}{E:XK}{c m:Str}{L:Addr}{np pos apos:Pos}{e o:Expr}{es:List Expr}{ta:TE}{t:TA}
theorem BO{pl:Sem Bool}(Z:Ge X.K X.mg c L m f)(F:ir X.prog X.w X.K X.mg X.base CX k f fd ps sp)(hr:cy k X.A)(hb:Binds X.K fd ps ds)(hd:Vals dvs ds)(hx:Passes CX X E)(ha:PA X (e::es) t)(hg:Gl X c:=by rfl)(hdb:(c==("__debug__":Str))=false:=by decide)
  (hst:starEach (e::es) X.env=(false,eval e X.env)::starEach es X.env:=by rfl) (hpl:(backTo pos (starEach es X.env)).any (·.1)=false:=by rfl)
  (ht:eval (.Call (.Attribute (.Name c np) m apos) (e::es) [] pos) X.env=(do
   let ov <-eval (.Name c np) X.env
   standAt apos.atName
   let (f,first) <-holding [ov] (getMethod ov m pl)
   callWith pos f first (backTo pos (starEach (e::es) X.env)) (backToKw pos (keywordEach [] X.env))):=by rfl):
  PE X (.Call (.Attribute (.Name c np) m apos) (e::es) [] pos) (lX sp dvs E t):=by
 intro pins s σ H Q I h;refine PySem.W.methodCall_KW (pl:=pl) (thn (tF (v:=.ref L) hg Z.mg rfl hdb pins s σ H (fun x H1=>x=.ref L/\H1=H) I ⟨rfl,rfl⟩) fun u s1 hPz=>?_) ht;obtain⟨x,H1,I1,rx,ex,eH⟩:=hPz;subst ex eH;obtain rfl:u=Value.ref L:=rx;refine PySem.W.method_cls I1.kIn Z.sp (PySem.W.cls_value I1.kIn Z.rd Z.fc rfl ?_);refine PySem.W.callWith_K (first:=[]) (h₀:=X.base) I.ok.mod.kin Z.kp (thn (ha pos pins _ σ _ _ (I1.tok _) h) fun us s2 hPz=>L2.ep3 hPz fun vs H2 I2 r q2=>⟨I2.kIn,?_⟩) hst hpl;exact sV (us:=us) (vs:=vs) F hr hb hd hx I2 r q2
end
structure TxM(K:Frag)(C:Addr)(m qual:Str)(st:Stmt)(ps:List Str)(ds:List Value):Prop where
 ex:∃(f:Addr)(oc:Value)(od:Option Addr)(osl:Array (Option Value))(dV kV doc pm:Value)(an:Option Addr)(cdv ct:Value),
  K.lookup f=some ⟨oc,od,.func (fnOf m qual (bG st) (bj st) (ak st) dV kV doc pm an cdv ct),osl⟩/\codeIn K cdv qual=true/\Meth K C m f/\
  Binds K (fnOf m qual (bG st) (bj st) (ak st) dV kV doc pm an cdv ct) ps []/\Binds K (fnOf m qual (bG st) (bj st) (ak st) dV kV doc pm an cdv ct) ps ds
structure DfT(P:Program)(w:World)(K:Frag)(mg:Str->Option Value)(base:Heap)(CX:CXT)(k:Nat)(C:Addr)(m:Str)(ps:List Str)(sp:Sp)(ds:List Value):Prop where
 ex:∃f fd,ir P w K mg base CX k f fd ps sp/\Binds K fd ps []/\Binds K fd ps ds/\Meth K C m f
section
variable{P:Program}{w:World}{K:Frag}{mg:Str->Option Value}{base:Heap}{CX:CXT}{k j:Nat}{C C':Addr}{m qual:Str}{st:Stmt}{N ps:List Str}{sp:Sp}{ds:List Value}
theorem DfT.under(D:DfT P w K mg base CX k C m ps sp ds)(e:findIn K (.ref C') m=findIn K (.ref C) m):DfT P w K mg base CX k C' m ps sp ds:=by obtain⟨f,fd,F,b1,b2,M⟩:=D.ex;exact⟨f,fd,F,b1,b2,⟨e.trans M.at_,M.fn,M.kp⟩⟩
theorem TxM.df(T:TxM K C m qual st ps ds)(S:aA N ps (ak st))(len:∀vs H Q E,sp vs H Q E->vs.length=ps.length)
  (hbody:∀(f:Addr)(cdv:Value)(A:Around)(outer:List Env)(s:Shared)(H:Hp)(vs:List V)(Q:VK)(E:XK),cy k (A.deeper (envOfC qual (ak st) s.heap.objs.size f cdv))->sp vs H Q E->
   ∃t,PSs (gZ CX0 P w K mg base N qual (ak st) f cdv A outer s H E).nox (bj st) t/\t {nx:=fun _ H'=>Q .non H',rt:=Q} (start N vs) H):DfT P w K mg base CX0 (k+1) C m ps sp ds:=by
 obtain⟨f,oc,od,osl,dV,kV,doc,pm,an,cdv,ct,l,c,M,b1,b2⟩:=T.ex;refine⟨f,_,vm l c S len fun A outer s H vs Q E hr hsp=>?_,b1,b2,M⟩;obtain⟨t,h,q⟩:=hbody f cdv A outer s H vs Q E hr hsp;exact⟨t,h.nox,q⟩
theorem TxM.dfN(T:TxM K C m qual st ps ds)(S:aA N ps (ak st))(len:∀vs H Q E,sp vs H Q E->vs.length=ps.length)
  (hbody:∀(f:Addr)(cdv:Value)(A:Around)(outer:List Env)(s:Shared)(H:Hp)(vs:List V)(Q:VK)(E:XK),cy k (A.deeper (envOfC qual (ak st) s.heap.objs.size f cdv))->sp vs H Q E->
   ∃t,PSs (gZ (CXn P w) P w K mg base N qual (ak st) f cdv A outer s H E) (bj st) t/\t {nx:=fun _ H'=>Q .non H',rt:=Q} (start N vs) H):DfT P w K mg base (CXn P w) (k+1) C m ps sp ds:=by
 obtain⟨f,oc,od,osl,dV,kV,doc,pm,an,cdv,ct,l,c,M,b1,b2⟩:=T.ex;exact⟨f,_,vm l c S len fun A outer s H vs Q E hr hsp=>hbody f cdv A outer s H vs Q E hr hsp,b1,b2,M⟩
theorem jq{f:Addr}{oc:Value}{od an:Option Addr}{osl:Array (Option Value)}{kV doc pm cdv ct:Value}(a:findIn K (.ref C) m=some (some (.ref f)))(fn:PySem.W.isFn K (.ref f)=true)
  (l:K.lookup f=some ⟨oc,od,.func (fnOf m qual (bG st) (bj st) (ak st) .none kV doc pm an cdv ct),osl⟩) (c:codeIn K cdv qual=true) (k:keepIn K (.ref f)=true)
  (hb:∀(kV doc pm:Value)(an:Option Addr)(cdv ct:Value)(us:List Value),us.length=ps.length->bindArgs (fnOf m qual (bG st) (bj st) (ak st) .none kV doc pm an cdv ct) ⟨us,[]⟩=pure (ps.zip us)):TxM K C m qual st ps []:=
 have b:=(qu (x:=m) (qual:=qual) (st:=st) l c k).binds hb
 ⟨f,oc,od,osl,.none,kV,doc,pm,an,cdv,ct,l,c,⟨a,fn,k⟩,b,b⟩
theorem wX{f:Addr}{oc:Value}{od an:Option Addr}{osl:Array (Option Value)}{dV kV doc pm cdv ct:Value}(a:findIn K (.ref C) m=some (some (.ref f)))(fn:PySem.W.isFn K (.ref f)=true)
  (l:K.lookup f=some ⟨oc,od,.func (fnOf m qual (bG st) (bj st) (ak st) dV kV doc pm an cdv ct),osl⟩) (c:codeIn K cdv qual=true) (k:keepIn K (.ref f)=true)
  (b1:∀us:List Value,us.length=ps.length->∀S,PySem.W.peek K S (bindArgs (fnOf m qual (bG st) (bj st) (ak st) dV kV doc pm an cdv ct) ⟨us,[]⟩)=some (ps.zip us))
  (b2:∀us:List Value,(us++ds).length=ps.length->∀S,PySem.W.peek K S (bindArgs (fnOf m qual (bG st) (bj st) (ak st) dV kV doc pm an cdv ct) ⟨us,[]⟩)=some (ps.zip (us++ds))):TxM K C m qual st ps ds:=by
 refine⟨f,oc,od,osl,dV,kV,doc,pm,an,cdv,ct,l,c,⟨a,fn,k⟩,fun s us X' hl=>?_,fun s us X' hl=>PySem.W.kp_binds X' (b2 us hl)⟩;rw[GY]at hl ⊢;exact PySem.W.kp_binds X' (b1 us hl)
end
section
variable{X:Cx}{CX:CXT}{k:Nat}{C:Addr}{ps:List Str}{sp:Sp}{dvs:List V}{ds:List Value}{E:XK}{c m:Str}{L:Addr}{np pos apos:Pos}{e o:Expr}{es:List Expr}{ta:TE}{t:TA}
def zq(X:Cx)(CX:CXT)(k:Nat)(m:Str)(ps:List Str)(dvs:List V)(ds:List Value)(E:XK)(ta:TE)(t:TA):TE:=fun σ H Q=>ta σ H fun x H1=>∃a C dx fs sp,x=.ref a/\H1 a=some (.ins C dx fs)/\Cls X.K C/\DfT X.prog X.w X.K X.mg X.base CX k C m ps sp ds/\fs.lookup m=none/\
 t σ H1 fun vs H2=>sp (x::(vs++dvs)) H2 Q E
theorem fV{pl:Sem Bool}(ps:List Str)(k:Nat)(he:PE X o ta)(hr:cy k X.A)(hd:Vals dvs ds)(hx:Passes CX X E)(ha:PA X (e::es) t)
  (hst:starEach (e::es) X.env=(false,eval e X.env)::starEach es X.env:=by rfl) (hpl:(backTo pos (starEach es X.env)).any (·.1)=false:=by rfl)
  (ht:eval (.Call (.Attribute o m apos) (e::es) [] pos) X.env=(do
   let ov <-eval o X.env
   standAt apos.atName
   let (f,first) <-holding [ov] (getMethod ov m pl)
   callWith pos f first (backTo pos (starEach (e::es) X.env)) (backToKw pos (keywordEach [] X.env))):=by rfl):
  PE X (.Call (.Attribute o m apos) (e::es) [] pos) (zq X CX k m ps dvs ds E ta t):=by
 intro pins s σ H Q I h;refine PySem.W.methodCall_KW (pl:=pl) (thn (he pins s σ H _ I h) fun u s1 hPz=>?_) ht;obtain⟨x,H1,I1,rx,a,C,dx,fs,sp,ex,ea,c,D,l,q⟩:=hPz;subst ex;obtain rfl:u=Value.ref a:=rx;obtain⟨f,fd,F,_,b,hm⟩:=D.ex;refine qt I1 ea c hm l ?_;refine PySem.W.callWith_K (first:=[.ref a]) (h₀:=X.base) I.ok.mod.kin hm.kp (thn (ha pos pins s1 σ H1 _ I1 q) fun us s2 hPz=>L2.ep3 hPz fun vs H2 I2 r q2=>⟨I2.kIn,?_⟩) hst hpl;exact sV (us:=.ref a::us) (vs:=.ref a::vs) F hr b hd hx I2 (.cons rfl r) q2
structure MkC(K:Frag)(mg:Str->Option Value)(c:Str)(C:Addr):Prop where
 mg:mg c=some (.ref C)
 makes:PySem.W.makesIn K C=true
 kp:keepIn K (.ref C)=true
structure CI(K:Frag)(mg:Str->Option Value)(c:Str)(L:Addr)(m:Str):Prop where
 mg:mg c=some (.ref L)
 rd:PySem.W.readsIn K L (.type "type")=true
 sp:PySem.W.specialIn K (.ref L) "__getattribute__"=some (some (.builtin "type.__getattribute__"))
 fc:∃f,findIn K (.ref L) m=some (some (.ref f))/\PySem.W.findCls K (.ref L) (.type "type") m=some (.val (.ref f))
theorem zQ{j:Nat}{pl:Sem Bool}(Z:CI X.K X.mg c L m)(D:DfT X.prog X.w X.K X.mg X.base CX0 j L m ps sp [])(hr:cy k X.A)(ha:PA X (e::es) t)(hg:Gl X c:=by rfl)(hj:j<=k:=by decide)(hdb:(c==("__debug__":Str))=false:=by decide)
  (hst:starEach (e::es) X.env=(false,eval e X.env)::starEach es X.env:=by rfl) (hpl:(backTo pos (starEach es X.env)).any (·.1)=false:=by rfl)
  (ht:eval (.Call (.Attribute (.Name c np) m apos) (e::es) [] pos) X.env=(do
   let ov <-eval (.Name c np) X.env
   standAt apos.atName
   let (f,first) <-holding [ov] (getMethod ov m pl)
   callWith pos f first (backTo pos (starEach (e::es) X.env)) (backToKw pos (keywordEach [] X.env))):=by rfl):
  PE X (.Call (.Attribute (.Name c np) m apos) (e::es) [] pos) (tCF sp t):=by
 obtain⟨f,fd,F,b,_,hm⟩:=D.ex;obtain⟨f',e1,e2⟩:=Z.fc;obtain rfl:f'=f:=Value.ref.inj (G2 (G2 (e1.symm.trans hm.at_)));have h:=BO (dvs:=[]) (ds:=[]) (E:=E0) (pl:=pl) ⟨Z.mg,Z.rd,Z.sp,e2,hm.kp⟩ F (hr.mono hj) b .nil ji ha hg hdb hst hpl ht;have e3:lX sp [] E0 t=tCF sp t:=by funext σ H Q;unfold lX tCF;simp only[GY]
 rw[e3]at h;exact h
end
section
variable{K:Frag}{h:Heap}{mg:Str->Option Value}{c m:Str}{C f:Addr}
theorem two_eq{α:Type}{a b d:α}(x:a=d)(y:b=d):a=b:=x.trans y.symm
theorem DP(X:K.In h)(G:h.Ns mainGlobals mg)(a:nsIn K mainGlobals c=some (some (.ref C)))(b:PySem.W.makesIn K C=true)(d:keepIn K (.ref C)=true):MkC K mg c C:=⟨PySem.W.mg_of X G a,b,d⟩
theorem Cw(X:K.In h)(G:h.Ns mainGlobals mg)(a:nsIn K mainGlobals c=some (some (.ref C)))(rd:PySem.W.readsIn K C (.type "type")=true)
 (sp:PySem.W.specialIn K (.ref C) "__getattribute__"=some (some (.builtin "type.__getattribute__"))) (fi:findIn K (.ref C) m=some (some (.ref f))) (fc:PySem.W.findCls K (.ref C) (.type "type") m=some (.val (.ref f))):CI K mg c C m:=⟨PySem.W.mg_of X G a,rd,sp,f,fi,fc⟩
theorem Bb(fi:findIn K (.ref C) "__init__"=some (some (.ref f)))(ok:PySem.W.jN K C PySem.W.vErr4 "ValueError.__new__" f=true):uu K C:=⟨f,ok⟩
theorem Cb(X:K.In h)(G:h.Ns mainGlobals mg)(a:nsIn K mainGlobals c=some (some (.ref C)))(fi:findIn K (.ref C) "__init__"=some (some (.ref f)))(ok:PySem.W.jN K C PySem.W.vErr4 "ValueError.__new__" f=true)
 (mr:mroIn K C (.ref C)=some true):A8 K mg c C:=⟨⟨f,ok⟩,C,PySem.W.mg_of X G a,⟨f,ok⟩,mr⟩
end
end L2
namespace L2
theorem mN{α:Type}{P:α->Prop}:∀p∈([]:List α),P p:=fun _ h=>nomatch h
theorem mC{α:Type}{P:α->Prop}{a:α}{l:List α}(h:P a)(t:∀p∈l,P p):∀p∈a::l,P p:=fun p hp=>by
 cases hp with
 |head=>exact h
 |tail _ hp=>exact t p hp
end L2
namespace L2
open PySem PySem.Spec PyProof.Rows LM
def OnR(R:cw)(r:List Key):Prop:=∃q∈R,r∈q.2
structure jk(rs:List (List Key))(R:cw):Prop where
 len:R.length<=28
 sub:∀q∈R,∀r∈q.2,r∈rs
 l59:rs.length<=59
 bur:∀r∈rs,eE r
 nd:(rs.map aN).Nodup
 good:∀q∈R,GoodC q.2
noncomputable def F7:List Key->Str
 |_::_:: .inr x::_=>x
 |_=>Str.empty
structure xV(K:Frag)(mg:Str->Option Value)(C:Addr):Prop where
 cls:Cls K C
 num:aW K C "number"
 sin:aW K C "since"
 sig:aW K C "signed"
 want:∃CP,mg "Paper"=some (.ref CP)/\findIn K (.ref C) "wanting"=findIn K (.ref CP) "wanting"
noncomputable def F2(num since:Int)(sg:Addr):List (Str×V):=[("number",.int num),("since",.int since),("signed",.ref sg)]
noncomputable def fF(sg:List Str):List Str->Option Str
 | []=>none
 |x::xs=>if x∈sg then fF sg xs else some x
noncomputable def SV(xs:List Str):List V:=xs.map V.str
noncomputable def CK(o:Option Str):V:=match o with
 |none=>.non
 |some x=>.str x
theorem Bu(a b:Str):PyData.eqv (.str a) (.str b)=decide (a=b):=by
 have h:=xv (.inr a) (.inr b);have e:(decide ((Sum.inr a:Key)=Sum.inr b))=decide (a=b):=by
  by_cases z:a=b
  ·simp[z]
  ·simp[z]
 rw[e]at h;exact h
theorem vB(ss:List Str)(x:Str):((ss.map PyData.str).any fun e=>PyData.eqv e (.str x))=decide (x∈ss):=by
 rw[List.any_map]
 induction ss with
 |nil=>simp
 |cons y ys ih=>
  rw[List.any_cons,ih];show(PyData.eqv (.str y) (.str x)||_)=_;rw[Bu];by_cases z:x=y
  ·subst z;simp
  ·have z':¬y=x:=fun w=>z w.symm;simp[z,z']
theorem rC(sg:List Str)(x:Str)(xs:List Str):fF sg (x::xs)=if x∈sg then fF sg xs else some x:=rfl
theorem gw{K:Frag}{mg:Str->Option Value}{CF:Addr}{H0 Hc:Hp}{E:XK}{tv v u:V}(z:dR mg "Falls" CF)(xc:uu K CF)(s:ao H0 Hc)
  (e:∀dx H',ao Hc H'->H' dx=some (XD dx [("who",u),("word",v)])->E (rg mg "Falls") (some dx) H'):
  ∀x,Hc x=none->Dp CF "word" "who" [.ref x,tv,v,u] (upd Hc x (XO x CF none)) (fun v' H2=>v'=.non/\∃x' C od,V.ref x=.ref x'/\H2 x'=some (XO x' C od)/\uu K C/\RzW H0 E x' (.ref C) od H2) E0:=by
 intro x hx;refine⟨x,tv,v,u,rfl,af,fun dx hd ne=>⟨rfl,x,CF,some dx,rfl,?_,xc,s.free hx,?_⟩⟩
 ·rw[av (fun y=>ne y.symm)];exact af
 ·rw[<-vx z];have hdc:Hc dx=none:=by
   rw[av ne]at hd;exact hd
  refine e dx _ (fun b o h=>?_) ?_
  ·have n1:b≠x:=fun y=>by rw[y,hx]at h;cases h
   have n2:b≠dx:=fun y=>by rw[y,hdc]at h;cases h
   rw[fX n1,av n2,av n1,av n1];exact h
  ·rw[fX ne];exact af
section
variable{X:Cx}{CX:CXT}{k:Nat}{ps:List Str}{dvs:List V}{ds:List Value}{E:XK}{m:Str}{pos apos:Pos}{e o:Expr}{es:List Expr}{ta:TE}{t:TA}
def Di(P:Program)(w:World)(K:Frag)(mg:Str->Option Value)(base:Heap)(CX:CXT)(k:Nat)(m:Str)(ps:List Str)(dvs:List V)(ds:List Value)(E:XK)(ta:TE)(t:TA):TE:=fun σ H Q=>ta σ H fun x H1=>∃a C dx fs sp,x=.ref a/\H1 a=some (.ins C dx fs)/\Cls K C/\DfT P w K mg base CX k C m ps sp ds/\fs.lookup m=none/\
 t σ H1 fun vs H2=>sp (x::(vs++dvs)) H2 Q E
theorem zM{P:Program}{w:World}{K:Frag}{mg:Str->Option Value}{base:Heap}{pl:Sem Bool}(hP:X.prog=P)(hw:X.w=w)(hK:X.K=K)(hm:X.mg=mg)(hb:X.base=base)(ps:List Str)(k:Nat)(he:PE X o ta)(hr:cy k X.A)(hd:Vals dvs ds)(hx:Passes CX X E)(ha:PA X (e::es) t)
  (hst:starEach (e::es) X.env=(false,eval e X.env)::starEach es X.env:=by rfl) (hpl:(backTo pos (starEach es X.env)).any (·.1)=false:=by rfl)
  (ht:eval (.Call (.Attribute o m apos) (e::es) [] pos) X.env=(do
   let ov <-eval o X.env
   standAt apos.atName
   let (f,first) <-holding [ov] (getMethod ov m pl)
   callWith pos f first (backTo pos (starEach (e::es) X.env)) (backToKw pos (keywordEach [] X.env))):=by rfl):
  PE X (.Call (.Attribute o m apos) (e::es) [] pos) (Di P w K mg base CX k m ps dvs ds E ta t):=by
 subst hP hw hK hm hb;exact fV (pl:=pl) ps k he hr hd hx ha hst hpl ht
end
structure PlG(rs:List (List Key))(p:Plt):Prop where
 nm:jk rs p.R
 st:∃f,bq f p.R/\∀i,i<64->((f i).isSome=true<->p.g.testBit i=true)
noncomputable def fnd(ps:List Plt)(c:Nat):Option Plt:=ps.find? fun p=>p.g.testBit c
theorem qv{K:Frag}{H:Hp}{c:Nat}:∀{xs:List V}{ps:List Plt},Paired (PlE K H) xs ps->
  (cW xs (ps.map (·.g)) c=.non/\fnd ps c=none)\/∃v p,cW xs (ps.map (·.g)) c=v/\v≠ .non/\fnd ps c=some p/\PlE K H v p/\p∈ps
 |_,_,.nil=>.inl ⟨rfl,rfl⟩
 |_,_,.cons (a:=x) (b:=p) (l₁:=xs) (l₂:=ps) h t=>by
  by_cases z:p.g.testBit c=true
  ·refine .inr ⟨x,p,?_,?_,?_,h,Gy ..⟩
   ·show(if p.g.testBit c=true then x else _)=x;rw[Gz z]
   ·obtain⟨l,ls,lr,e,_⟩:=h;rw[e];exact fun w=>nomatch w
   ·show List.find? _ (p::ps)=_;simp[G9,z]
  ·have e1:cW (x::xs) ((p::ps).map (·.g)) c=cW xs (ps.map (·.g)) c:=by
    show(if p.g.testBit c=true then x else _)=_;rw[Gu z]
   have e2:fnd (p::ps) c=fnd ps c:=by show List.find? _ (p::ps)=_;simp[G9,z,fnd]
   rw[e1,e2];rcases qv t with h|⟨v,q,h1,h2,h3,h4,h5⟩
   ·exact .inl h
   ·exact .inr ⟨v,q,h1,h2,h3,h4,Gs _ h5⟩
inductive rm
 |falls (word who:Str)
 |does (p q:Plt)
noncomputable def C0(p q:Plt):PyData:=.tuple [.tuple [plD p],.tuple [plD q],.tuple []]
noncomputable def outD:rm->PyData
 | .falls w x=>.tuple [.str "falls",.str w,.str x]
 | .does p q=>.tuple [.str "does",C0 p q]
def AG(K:Frag)(mg:Str->Option Value)(H:Hp)(Q:VK)(E:XK)(R:rm->Prop):Prop:=
 (∀p q v H',ao H H'->R (.does p q)->IsD K H' (C0 p q) v->Q v H')/\
 ∀w x dx H',ao H H'->R (.falls w x)->H' dx=some (XD dx [("who",.str x),("word",.str w)])->E (rg mg "Falls") (some dx) H'
theorem Er{C:List Col}{T:Col}{rs:List (List Key)}{k:Nat}(h:A6 C T)(sub:∀c∈C,∀r∈c,r∈rs)(hk:rs.length<=k):T.length<=k:=by
 have nd:T.Nodup:=List.Pairwise.imp (fun {a b} w e=>by rw[e]at w;lia) h.so;have:T.length<=rs.length:=nd.length_le_of_subset fun r hr=>by obtain⟨c,hc,hr'⟩:=(h.mem r).mp hr;exact sub c hc r hr'
 lia
theorem st5{σ:St}(h:σ.length=5):∃o0 o1 o2 o3 o4,σ=[o0,o1,o2,o3,o4]:=by
 cases σ with
 |nil=>cases h
 |cons a σ=>
 replace h:=G6 h;cases σ with
 |nil=>cases h
 |cons b σ=>
 replace h:=G6 h;cases σ with
 |nil=>cases h
 |cons c σ=>
 replace h:=G6 h;cases σ with
 |nil=>cases h
 |cons d σ=>
 replace h:=G6 h;cases σ with
 |nil=>cases h
 |cons e σ=>
 replace h:=G6 h;cases σ with
 |nil=>exact⟨a,b,c,d,e,rfl⟩
 |cons x σ=>cases h
noncomputable def qg(k c:Int):Int:=1+(k*7919+c) % 9973*(if c / 9973 % 2=0 then 1 else 100003)
theorem BW{i j:Nat}{c:Int}(hi:i<13)(hj:j<13)(e:qg (i:Nat) c=qg (j:Nat) c):i=j:=by
 unfold qg at e;have h:((i:Int)*7919+c) % 9973=((j:Int)*7919+c) % 9973:=by split at e<;>lia
 omega
theorem DN(c:Int):((List.range 13).map fun k:Nat=>qg (k:Nat) c).Nodup:=by rw[List.Nodup,HZ];refine List.Pairwise.imp_of_mem ?_ List.nodup_range;intro a b ha hb ne e;exact ne (BW (G7.mp ha) (G7.mp hb) e)
theorem lY{f:Nat->Option Col}{R:cw}(h:bq f R){q:Nat×Col}(hq:q∈R):∃i,i<64/\f i=some q.2:=by obtain⟨q1,q0,qb⟩:=h.ok q hq;have l1:cb q.1<64:=f9 q1 (by decide) q0;exact⟨_,l1,(qb _ l1).mp (cM q1 q0).1⟩
theorem Br{f:Nat->Option Col}{R:cw}{C1 C2:Col}(h:bq f R)(hc:∀i c,f i=some c->c=C1\/c=C2):R.length<=2:=by
 have:=HI h.nd (l₂:=[C1,C2]) fun c hc'=>by obtain⟨q,hq,rfl⟩:=Gm.mp hc';obtain⟨i,_,e⟩:=lY h hq;rcases hc i _ e with e|e<;>rw[e]<;>simp
 rwa[Gh]at this
theorem Dy{ss:List Str}{rs:List (List Key)}{p:Plt}(o:wR ss rs p)(hb:∀r∈rs,eE r)(l13:rs.length=13)(nd:(rs.map aN).Nodup)(cn:∀q∈p.R,(q.2.map aN).Nodup)(l2:p.R.length<=2):PlG rs p:=by
 obtain⟨f,h1,h2,h3⟩:=o.st;have sub:∀q∈p.R,q.2.length<=12/\∀r∈q.2,r∈rs:=fun q hq=>by obtain⟨i,_,e⟩:=lY h1 hq;exact h3 i _ e
 exact⟨⟨by lia,fun q hq=>(sub q hq).2,by lia,hb,nd,fun q hq=>⟨fun r hr=>hb r ((sub q hq).2 r hr),cn q hq,by have:=(sub q hq).1;lia⟩⟩,f,h1,h2⟩
theorem Fd:∀d,d<12->∀s,s<13->d≠0->s≠0->d*s % 13≠0:=by decide
theorem Ej{rs C:List (List Key)}{a s n:Nat}(nd:(rs.map aN).Nodup)(hl:rs.length=13)(lC:C.length=n)(hn:n<=12)(hs:1<=s/\s<=12)(ix:∀t,t<n->C[t]?=rs[(a+t*s) % 13]?):(C.map aN).Nodup:=by
 rw[List.Nodup,List.pairwise_iff_getElem];intro i j hi hj lt e;rw[Gh]at hi hj;rw[List.getElem_map,List.getElem_map]at e;have m1:(a+i*s) % 13<rs.length:=by rw[hl];exact Nat.mod_lt _ (by decide)
 have m2:(a+j*s) % 13<rs.length:=by rw[hl];exact Nat.mod_lt _ (by decide)
 have e1:=ix i (by lia);have e2:=ix j (by lia);rw[GB hi,GB m1]at e1;rw[GB hj,GB m2]at e2;rw[G2 e1,G2 e2]at e;have e3:(rs.map aN)[(a+i*s) % 13]'(by rw[Gh];exact m1)=(rs.map aN)[(a+j*s) % 13]'(by rw[Gh];exact m2):=by rw[List.getElem_map,List.getElem_map];exact e
 have pw:=List.pairwise_iff_getElem.mp nd;have e4:(a+i*s) % 13=(a+j*s) % 13:=by
  rcases Nat.lt_trichotomy ((a+i*s) % 13) ((a+j*s) % 13)with y|y|y
  ·exact absurd e3 (pw _ _ _ _ y)
  ·exact y
  ·exact absurd e3.symm (pw _ _ _ _ y)
 obtain⟨d,rfl⟩:∃d,j=i+d:=⟨j-i,by lia⟩;have:=Fd d (by lia) s (by lia) (by lia) (by lia);rw[Nat.add_mul]at e4
 lia
noncomputable def f64(f:Nat->Option Col):Nat->Option Col:=fun i=>if i<64 then f i else none
theorem Cp{f:Nat->Option Col}{R:cw}(h:bq f R):bq (f64 f) R:=by have e:∀i,i<64->f64 f i=f i:=fun i hi=>Gz hi;refine⟨h.nd,fun p hp=>⟨(h.ok p hp).1,(h.ok p hp).2.1,fun i hi=>by rw[e i hi];exact(h.ok p hp).2.2 i hi⟩,fun i c hi hc=>?_,h.so⟩;rw[e i hi]at hc;exact h.all i c hi hc
theorem xE(f:Nat->Option Col):∀i,64<=i->f64 f i=none:=fun i hi=>Gu (by lia)
theorem px{ps:List Plt}{c:Nat}{p:Plt}(h:fnd ps c=some p):p∈ps/\p.g.testBit c=true:=⟨List.mem_of_find?_eq_some h,List.find?_some (p:=fun p:Plt=>p.g.testBit c) h⟩
theorem xF:∀{ps:List Plt}{c:Nat},(ps.map (·.g)).Pairwise Dis->∀p∈ps,∀q∈ps,p.g.testBit c=true->q.g.testBit c=true->p=q
 | [],_,_,_,hp,_,_,_,_=>nomatch hp
 |a::ps,c,ap,p,hp,q,hq,h1,h2=>by
  rw[GC,List.pairwise_cons]at ap;rcases GH.mp hp with e1|hp'
  ·rcases GH.mp hq with e2|hq'
   ·rw[e1,e2]
   ·rw[e1]at h1;exact absurd ⟨h1,h2⟩ (ap.1 _ (Gm.mpr ⟨q,hq',rfl⟩) c)
  ·rcases GH.mp hq with e2|hq'
   ·rw[e2]at h2;exact absurd ⟨h2,h1⟩ (ap.1 _ (Gm.mpr ⟨p,hp',rfl⟩) c)
   ·exact xF ap.2 p hp' q hq' h1 h2
theorem Ck{ps:List Plt}{c:Nat}(ap:(ps.map (·.g)).Pairwise Dis):fnd ps.reverse c=fnd ps c:=by
 cases h:fnd ps c with
 |none=>have:=Ie.mp h;exact Ie.mpr fun x hx=>this x (List.mem_reverse.mp hx)
 |some p=>
  obtain⟨m1,b1⟩:=px h;cases k:fnd ps.reverse c with
  |none=>exact absurd b1 (Ie.mp k p (List.mem_reverse.mpr m1))
  |some q=>obtain⟨m2,b2⟩:=px k;rw[xF ap q (List.mem_reverse.mp m2) p m1 b2 b1]
theorem Bs{f f':Nat->Option Col}{R:cw}(h:bq f R)(k:bq f' R):∀i,i<64->f i=f' i:=fun i hi=>by
 cases e:f i with
 |some c=>obtain⟨p,hp,rfl⟩:=Gm.mp (h.all i c hi e);exact(((k.ok p hp).2.2 i hi).mp (((h.ok p hp).2.2 i hi).mpr e)).symm
 |none=>
  cases e':f' i with
  |none=>rfl
  |some c=>obtain⟨p,hp,rfl⟩:=Gm.mp (k.all i c hi e');rw[((h.ok p hp).2.2 i hi).mp (((k.ok p hp).2.2 i hi).mpr e')]at e;cases e
theorem xo{rs:List (List Key)}{R:cw}(N:jk rs R){r r':List Key}(h:OnR R r)(k:OnR R r')(e:aN r=aN r'):r=r':=by obtain⟨q,hq,hr⟩:=h;obtain⟨q',hq',hr'⟩:=k;exact tS N.nd r (N.sub q hq r hr) r' (N.sub q' hq' r' hr') e
theorem BI{p q:Plt}(h:Pln (plD p))(k:Pln (plD q)):Pln (outD (.does p q)):=
 .tup (GP rfl) (.cons (.str _) (.cons (.tup (GP rfl) (.cons (.tup (GP rfl) (.cons h .nil)) (.cons (.tup (GP rfl) (.cons k .nil)) (.cons (.tup (GP rfl) .nil) .nil)))) .nil))
theorem iG(w x:Str):Pln (outD (.falls w x)):=.tup (GP rfl) (.cons (.str _) (.cons (.str _) (.cons (.str _) .nil)))
theorem Dx{g:Nat}{S:Sh}{R:cw}{num:Int}{f:Nat->Option Col}{F:Col->Col}(hS:S.length<=1000)(h:bq (fun i=>(f i).map F) R)(hc:∀i c,i<64->f i=some c->(F c).length<=1000/\∀r∈F c,r.length<=1000):Pln (plD ⟨g,S,R,num⟩):=by
 have b:Pln (uB R):=.tup (by rw[Gh];exact G0 h.len (by decide)) (jR fun d hd=>by
  obtain⟨q,hq,rfl⟩:=Gm.mp hd;obtain⟨i,hi,e⟩:=lY h hq;have e':(f i).map F=some q.2:=e;obtain⟨c,e1,e2⟩:=Option.map_eq_some_iff.mp e';obtain⟨c1,c2⟩:=hc i c hi e1;rw[e2]at c1 c2
  exact .tup (GP rfl) (.cons (.int _) (.cons (xi c1 c2) .nil)))
 exact .tup (GP rfl) (.cons (.int _) (.cons (xh hS) (.cons b (.cons (.int _) .nil))))
theorem AK(o:rm):(outD o).depth<=10:=by
 cases o with
 |falls w x=>exact GP rfl
 |does p q=>have a:=ud p;have b:=ud q;show max (PyData.str _).depth (max (max (max (plD p).depth 0+1) (max (max (plD q).depth 0+1) (max (0+1) 0))+1) 0)+1<=10;have c:(PyData.str "does").depth<=9:=GP rfl;have hm:∀{a b n:Nat},a<=n->b<=n->max a b<=n:=fun h k=>Nat.max_le.mpr ⟨h,k⟩;have a7:=G0 a (show 6<=7 by decide);have b7:=G0 b (show 6<=7 by decide);exact Nat.succ_le_succ (hm c (hm (Nat.succ_le_succ (hm (Nat.succ_le_succ (hm a7 (G1 _))) (hm (Nat.succ_le_succ (hm b7 (G1 _))) (by decide)))) (G1 _)))
theorem Cc{rs:List (List Key)}{p:Plt}(G:PlG rs p){f:Nat->Option Col}(h:bq f p.R):∀i c,i<64->f i=some c->GoodC c:=fun i c hi e=>by obtain⟨q,hq,e2⟩:=Gm.mp (h.all i c hi e);rw[<-e2];exact G.nm.good q hq
end L2
namespace L2
open PySem PySem.Spec PyProof.Rows
section
variable{X:Cx}{CX:CXT}{k:Nat}{C:Addr}{ps:List Str}{sp:Sp}{dvs:List V}{ds:List Value}{E:XK}{c m:Str}{L:Addr}{np pos apos:Pos}{e o:Expr}{es:List Expr}{ta:TE}{t:TA}
theorem rN{pl:Sem Bool}(ps:List Str)(k:Nat)(he:PE X o ta)(hr:cy k X.A)(hd:Vals dvs ds)(hx:Passes CX X E)
  (ht:eval (.Call (.Attribute o m apos) [] [] pos) X.env=(do
   let ov <-eval o X.env
   standAt apos.atName
   let (f,first) <-holding [ov] (getMethod ov m pl)
   callWith pos f first (backTo pos (starEach [] X.env)) (backToKw pos (keywordEach [] X.env))):=by rfl):
  PE X (.Call (.Attribute o m apos) [] [] pos) (zq X CX k m ps dvs ds E ta EL):=by
 intro pins s σ H Q I h;refine PySem.W.methodCall_KW (pl:=pl) (thn (he pins s σ H _ I h) fun u s1 hPz=>?_) ht;obtain⟨x,H1,I1,rx,a,C,dx,fs,sp,ex,ea,c,D,l,q⟩:=hPz;subst ex;obtain rfl:u=Value.ref a:=rx;obtain⟨f,fd,F,_,b,hm⟩:=D.ex;refine qt I1 ea c hm l ?_;exact PySem.W.callWith_K0 (first:=[.ref a]) I1.kIn hm.kp (sV (us:=[.ref a]) (vs:=[.ref a]) F hr b hd hx I1 (.cons rfl .nil) q)
theorem zN{j:Nat}(M:MkC X.K X.mg c C)(D:DfT X.prog X.w X.K X.mg X.base CX0 j C "__init__" ps sp ds)(hr:cy k X.A)(ha:PA X (e::es) t)(hg:Gl X c:=by rfl)(hj:j+1<=k:=by decide)(hdb:(c==("__debug__":Str))=false:=by decide)
  (he:starEach (e::es) X.env=(false,eval e X.env)::starEach es X.env:=by rfl) (hpl:(backTo pos (starEach es X.env)).any (·.1)=false:=by rfl):PE X (.Call (.Name c np) (e::es) [] pos) (zu C sp [] E0 t):=by
 obtain⟨f,fd,F,b,_,hm⟩:=D.ex;exact xl ⟨M.makes,hm.at_,hm.fn,M.kp⟩ F (hr.mono hj) hg M.mg b .nil ji ha hdb he hpl
theorem zO{j:Nat}(M:MkC X.K X.mg c C)(D:DfT X.prog X.w X.K X.mg X.base CX0 j C "__init__" ps sp [Value.none])(hr:cy k X.A)(ha:PA X (e::es) t)(hg:Gl X c:=by rfl)(hj:j+1<=k:=by decide)(hdb:(c==("__debug__":Str))=false:=by decide)
  (he:starEach (e::es) X.env=(false,eval e X.env)::starEach es X.env:=by rfl) (hpl:(backTo pos (starEach es X.env)).any (·.1)=false:=by rfl):PE X (.Call (.Name c np) (e::es) [] pos) (zu C sp [V.non] E0 t):=by
 obtain⟨f,fd,F,_,b,hm⟩:=D.ex;exact xl ⟨M.makes,hm.at_,hm.fn,M.kp⟩ F (hr.mono hj) hg M.mg b (.cons rfl .nil) ji ha hdb he hpl
theorem BF{st:Stmt}:PS X st (fun _ _ _=>False):=by intro D pins s σ H I h;exact h.elim
end
theorem eG{n:Nat}{P:List Value->Prop}(h:∀a us,us.length=n->P (a::us))(us:List Value)(e:us.length=n+1):P us:=by
 cases us with
 |nil=>cases e
 |cons a us=>exact h a us (G6 e)
theorem lenZ{P:List Value->Prop}(h:P [])(us:List Value)(e:us.length=0):P us:=by
 cases us with
 |nil=>exact h
 |cons a us=>cases e
end L2
namespace L2
open PySem PySem.Spec PyProof.Rows LM
theorem Ff{d:Value}{n:Nat}{P:List Value->Prop}(h:∀us,us.length=n->P us):∀us,(us++[d]).length=n+1->P us:=fun us e=>h us (by
 rw[Gn]at e
 exact G6 e)
structure dY where
 c:Nat
 kd:Str
 hd:Str
 am:Int
 un:Int
 ov:Nat
 nt:Int
 gr:Int
noncomputable def mL(num since:Int)(sg:Addr)(L:dY)(tr:V):List (Str×V):=[("number",.int num),("since",.int since),("signed",.ref sg),("at",.int L.c),("kind",.str L.kd),("holder",.str L.hd),("amount",.int L.am),("until",.int L.un),("over",.int L.ov),("note",.int L.nt),("ground",.int L.gr),("trust",tr)]
structure rn(K:Frag)(mg:Str->Option Value)(C:Addr):Prop where
 mgL:mg "Lay"=some (.ref C)
 pap:xV K mg C
 at':aW K C "at"
 kd:aW K C "kind"
 hd:aW K C "holder"
 am:aW K C "amount"
 un:aW K C "until"
 ov:aW K C "over"
 nt:aW K C "note"
 gr:aW K C "ground"
 tr:aW K C "trust"
noncomputable def qp:List Key->Str
 |_:: .inr x::_=>x
 |_=>Str.empty
noncomputable def Fz:List Key->Int
 |_::_::_::_:: .inl n::_=>n
 |_=>0
noncomputable def layB(num:Int)(L:dY):List Key:=[.inl num,.inr L.kd,.inr L.hd,.inl L.am,.inl L.un]
theorem Ah(num:Int)(L:dY):eE (layB num L):=⟨num,L.kd,L.hd,L.am,L.un,rfl⟩
noncomputable def dG(p:Plt)(L:dY):Nat:=if L.kd=("way":Str)then L.ov else p.g
def Ec(L:dY)(since:Int)(r:List Key):Prop:=aN r=L.nt/\qp r=("note":Str)/\F7 r=L.hd/\since<=Fz r
def ic(p:Plt)(L:dY)(since:Int):Prop:=∃r,OnR p.R r/\Ec L since r
noncomputable def lK(num:Int)(p:Plt)(L:dY)(f:Nat->Option Col):Nat->Option Col:=fun i=>
 if L.nt=0 then(if(dG p L).testBit i=true then(f i).map (qm none (layB num L))else(f i).map id)
 else if(dG p L).testBit i=true then(f i).map (iJ L.nt (layB num L))else(f i).map (wo L.nt)
open Classical in
def iL(p:Plt)(L:dY)(num since:Int)(sg:List Str)(o:rm):Prop:=
 if L.nt≠0/\¬ic p L since then o=.falls "note" ""
 else match fF sg (p.S.map (·.1))with
  |some x=>o=.falls "sign" x
  |none=>∃f R',bq f p.R/\bq (lK num p L f) R'/\if ∃q∈R',12<q.2.length then o=.falls "many" "" else o=.does p ⟨p.g,p.S,R',num⟩
open Classical in
def fZ(ps:List Plt)(L:dY)(num since:Int)(sg:List Str)(o:rm):Prop:=
 match fnd ps L.c with
 |none=>o=.falls "waste" ""
 |some p=>if L.gr≠0/\L.gr≠(p.g:Int)then o=.falls "other" "" else if ¬L.ov&&& p.g=L.ov then o=.falls "over" "" else iL p L num since sg o
theorem wt{num:Int}{p:Plt}{L:dY}{f f':Nat->Option Col}(h:∀i,i<64->f i=f' i):∀i,i<64->lK num p L f i=lK num p L f' i:=fun i hi=>by unfold lK;rw[h i hi]
theorem iL.uniq{p:Plt}{L:dY}{num since:Int}{sg:List Str}{o o':rm}(a:iL p L num since sg o)(b:iL p L num since sg o'):o=o':=by
 unfold iL at a b;by_cases h1:L.nt≠0/\¬ic p L since
 ·rw[Gz h1]at a b;rw[a,b]
 rw[Gu h1]at a b;cases h2:fF sg (p.S.map (·.1))with
 |some x=>rw[h2]at a b;exact Eq.trans a b.symm
 |none=>
  rw[h2]at a b;obtain⟨f,R,a1,a2,a3⟩:=a;obtain⟨f',R',b1,b2,b3⟩:=b;obtain rfl:R=R':=a2.uniq (b2.congr (wt (Bs b1 a1)));by_cases h3:∃q∈R,12<q.2.length
  ·rw[Gz h3]at a3 b3;rw[a3,b3]
  ·rw[Gu h3]at a3 b3;rw[a3,b3]
theorem fZ.uniq{ps:List Plt}{L:dY}{num since:Int}{sg:List Str}{o o':rm}(a:fZ ps L num since sg o)(b:fZ ps L num since sg o'):o=o':=by
 unfold fZ at a b;cases h:fnd ps L.c with
 |none=>rw[h]at a b;exact Eq.trans a b.symm
 |some p=>
  rw[h]at a b;dsimp only at a b;by_cases h1:L.gr≠0/\L.gr≠(p.g:Int)
  ·rw[Gz h1]at a b;rw[a,b]
  rw[Gu h1]at a b;by_cases h2:¬L.ov&&& p.g=L.ov
  ·rw[Gz h2]at a b;rw[a,b]
  rw[Gu h2]at a b;exact a.uniq b
theorem fZ.rev{ps:List Plt}{L:dY}{num since:Int}{sg:List Str}{o:rm}(ap:(ps.map (·.g)).Pairwise Dis)(h:fZ ps.reverse L num since sg o):fZ ps L num since sg o:=by unfold fZ at h ⊢;rwa[Ck ap]at h
section
variable{ps:List Plt}{p:Plt}{L:dY}{num since:Int}{sg:List Str}
theorem fZ.waste(h:fnd ps L.c=none):fZ ps L num since sg (.falls "waste" ""):=by unfold fZ;rw[h]
theorem fZ.other(h:fnd ps L.c=some p)(h1:L.gr≠0)(h2:L.gr≠(p.g:Int)):fZ ps L num since sg (.falls "other" ""):=by unfold fZ;rw[h];exact(Gz ⟨h1,h2⟩).mpr rfl
theorem fZ.over(h:fnd ps L.c=some p)(h1:L.gr=0\/L.gr=(p.g:Int))(h2:¬L.ov&&& p.g=L.ov):fZ ps L num since sg (.falls "over" ""):=by unfold fZ;rw[h];dsimp only;rw[Gu (fun y=>h1.elim y.1 y.2),Gz h2]
theorem fZ.of{o:rm}(h:fnd ps L.c=some p)(h1:L.gr=0\/L.gr=(p.g:Int))(h2:L.ov&&& p.g=L.ov)(k:iL p L num since sg o):fZ ps L num since sg o:=by unfold fZ;rw[h];dsimp only;rw[Gu (fun y=>h1.elim y.1 y.2),Gu (fun y=>y h2)];exact k
theorem iL.note(h1:L.nt≠0)(h2:¬ic p L since):iL p L num since sg (.falls "note" ""):=by unfold iL;rw[Gz ⟨h1,h2⟩]
theorem iL.sign{x:Str}(h1:L.nt=0\/ic p L since)(h2:fF sg (p.S.map (·.1))=some x):iL p L num since sg (.falls "sign" x):=by unfold iL;rw[Gu (fun y=>h1.elim y.1 y.2),h2]
theorem iL.many{f:Nat->Option Col}{R':cw}(h1:L.nt=0\/ic p L since)(h2:fF sg (p.S.map (·.1))=none)(h3:bq f p.R)(h4:bq (lK num p L f) R')(h5:∃q∈R',12<q.2.length):iL p L num since sg (.falls "many" ""):=by unfold iL;rw[Gu (fun y=>h1.elim y.1 y.2),h2];exact⟨f,R',h3,h4,by rw[Gz h5]⟩
theorem iL.does{f:Nat->Option Col}{R':cw}(h1:L.nt=0\/ic p L since)(h2:fF sg (p.S.map (·.1))=none)(h3:bq f p.R)(h4:bq (lK num p L f) R')(h5:¬∃q∈R',12<q.2.length):iL p L num since sg (.does p ⟨p.g,p.S,R',num⟩):=by unfold iL;rw[Gu (fun y=>h1.elim y.1 y.2),h2];exact⟨f,R',h3,h4,by rw[Gu h5]⟩
end
theorem C8{a b:Str}:(!decide (V.str a=V.str b))=true<->a≠b:=by rw[Bool.not_eq_true',decide_eq_false_iff_not];exact⟨fun h e=>h (congrArg V.str e),fun h e=>h (V.str.inj e)⟩
theorem CL{a b:Str}(h:¬(!decide (V.str a=V.str b))=true):a=b:=G8 fun y=>h (C8.mpr y)
theorem AL{R':cw}{m:Int}(h:C4 (0::oC R') m):12<m<->∃q∈R',12<q.2.length:=by
 constructor
 ·intro hm;rcases GH.mp h.1 with e|e
  ·lia
  ·obtain⟨q,hq,e2⟩:=Gm.mp e;exact⟨q,hq,by lia⟩
 ·rintro⟨q,hq,hl⟩;have:=h.2 _ (Gs _ (Gm.mpr ⟨q,hq,rfl⟩));have e2:((q.2.length:Nat):Int)<=m:=this
  lia
theorem vp{a b:Nat}:dif a b=0<->a&&& b=a:=by
 constructor
 ·intro h;refine Nat.eq_of_testBit_eq fun i=>?_;have:(dif a b).testBit i=(0:Nat).testBit i:=by rw[h]
  rw[Hu];rw[eO,Nat.zero_testBit]at this
  revert this
  cases a.testBit i<;>cases b.testBit i<;>simp
 ·intro h;refine Nat.eq_of_testBit_eq fun i=>?_;have:(a&&& b).testBit i=a.testBit i:=by rw[h]
  rw[Hu]at this;rw[eO,Nat.zero_testBit]
  revert this
  cases a.testBit i<;>cases b.testBit i<;>simp
structure A3(S:Sh):Prop where
 len:S.length<=100
 lay:∀x∈S.map (·.1),PyData.canLay0 (.str x)=true
def lR(L:dY):Prop:=PyData.canLay0 (.str L.kd)=true/\PyData.canLay0 (.str L.hd)=true
theorem qo{num:Int}{L:dY}(h:lR L):∀x∈layB num L,u9 x=true:=fun x hx=>by
 simp only[layB,GH,List.mem_nil_iff,or_false]at hx;rcases hx with rfl|rfl|rfl|rfl|rfl
 ·rfl
 ·exact h.1
 ·exact h.2
 ·rfl
 ·rfl
noncomputable def Du(t:V)(num since:Int)(sg:Addr)(L:dY):List V:=[t,.int num,.int since,.ref sg,.int L.c,.str L.kd,.str L.hd,.int L.am,.int L.un,.int L.ov,.int L.nt,.int L.gr]
noncomputable def vc(n:Int)(b:List Key)(here:Bool)(c:Col):Col:=if here=true then iJ n b c else wo n c
theorem AZ{n:Int}{c:Col}:wM n c=decide (n∈c.map aN):=by rw[Bool.eq_iff_iff,sy,Hj,Gm]
theorem AB{n:Int}{b:List Key}{c:Col}(h:wM n c=true):iJ n b c=c.map fun r=>if aN r=n then b else r:=by unfold iJ;rw[Gz h,GY]
theorem yz{num:Int}{p:Plt}{L:dY}{f:Nat->Option Col}{i:Nat}(z:∀c,f i=some c->∀r∈c,aN r≠0):lK num p L f i=(f i).map (vc L.nt (layB num L) ((dG p L).testBit i)):=by
 unfold lK vc;cases e:f i with
 |none=>
  by_cases h:L.nt=0
  ·rw[Gz h];split<;>rfl
  ·rw[Gu h];split<;>rfl
 |some c=>
  have zc:=z c e;by_cases h:L.nt=0
  ·rw[Gz h,h];split
   ·show some (qm none _ c)=some (iJ 0 _ c);rw[rZ,nP zc]
   ·show some c=some (wo 0 c);congr 1;unfold wo;exact(List.filter_eq_self.mpr fun r hr=>GN (zc r hr)).symm
  ·rw[Gu h];split<;>rfl
theorem si{p:Plt}{L:dY}(hov:L.kd≠("way":Str)->L.ov=0):(L.ov&&& p.g=L.ov)<->(dG p L&&& p.g=dG p L):=by
 unfold dG;by_cases h:L.kd=("way":Str)
 ·rw[Gz h]
 ·rw[Gu h,hov h,Nat.zero_and,Nat.and_self];simp
noncomputable def jJ(num:Int)(p:Plt)(L:dY)(f:Nat->Option Col):Nat->Option Col:=fun x=>(f x).map (vc L.nt (layB num L) ((dG p L).testBit x))
theorem Aj{num:Int}{p:Plt}{L:dY}{f:Nat->Option Col}{R':cw}(z:∀i c,f i=some c->∀r∈c,aN r≠0)(h:bq (jJ num p L f) R'):bq (lK num p L f) R':=
 h.congr fun i _=>(yz (z i)).symm
theorem se{g:Nat->Option Col}{R':cw}(h:bq g R'):(∃q∈R',12<q.2.length)<->∃i c,i<64/\g i=some c/\12<c.length:=by
 constructor
 ·rintro⟨q,hq,hl⟩;obtain⟨i,hi,e⟩:=lY h hq;exact⟨i,_,hi,e,hl⟩
 ·rintro⟨i,c,hi,e,hl⟩;obtain⟨q,hq,rfl⟩:=Gm.mp (h.all i c hi e);exact⟨q,hq,hl⟩
theorem BX(k c:Int):qg k c≠0:=by
 unfold qg;have a:=Hs (k*7919+c) (show(9973:Int)≠0 by decide);split
 ·lia
 ·lia
theorem Cn(n:Int)(b:List Key)(c:Col):(iJ n b c).length<=c.length+1:=by unfold iJ;rw[Gn,Gh];split<;>simp
theorem Ag{num:Int}{p:Plt}{L:dY}{f:Nat->Option Col}{i:Nat}{c':Col}(h:lK num p L f i=some c'):∃c,f i=some c/\c'.length<=c.length+1/\∀r∈c',r∈c\/r=layB num L:=by
 unfold lK at h;cases e:f i with
 |none=>
  rw[e]at h;split at h
  ·split at h<;>cases h
  ·split at h<;>cases h
 |some c=>
  rw[e]at h;refine⟨c,rfl,?_⟩;split at h
  ·split at h
   ·have h':some (qm none (layB num L) c)=some c':=h;rw[rZ]at h';cases h';exact⟨by rw[Gn];exact Gr _,fun r hr=>(Gv.mp hr).imp id Gk.mp⟩
   ·have h':some c=some c':=h;cases h';exact⟨Nat.le_succ _,fun r hr=>.inl hr⟩
  ·split at h
   ·have h':some (iJ L.nt (layB num L) c)=some c':=h;cases h';exact⟨Cn _ _ _,fun r hr=>(Cm hr).imp And.left id⟩
   ·have h':some (wo L.nt c)=some c':=h;cases h';exact⟨Nat.le_succ_of_le (HS _ _),fun r hr=>.inl (HK.mp hr).1⟩
theorem BJ{g:Nat}{S:Sh}{R:cw}{num:Int}{f:Nat->Option Col}(hS:S.length<=1000)(h:bq f R)(hc:∀i c,i<64->f i=some c->c.length<=1000/\∀r∈c,r.length<=1000):Pln (plD ⟨g,S,R,num⟩):=
 Dx (F:=id) hS (h.congr fun i _=>by cases f i<;>rfl) hc
theorem fZ.pln{ps:List Plt}{rs:List (List Key)}{L:dY}{num since:Int}{sg:List Str}{o:rm}(hG:∀p∈ps,PlG rs p)(hp:∀p∈ps,Pln (plD p))(hS:∀p∈ps,p.S.length<=1000)(h:fZ ps L num since sg o):Pln (outD o):=by
 unfold fZ at h;cases e:fnd ps L.c with
 |none=>rw[e]at h;rw[show o=_ from h];exact iG _ _
 |some p=>
  have m:=(px e).1;rw[e]at h;dsimp only at h;split at h
  ·rw[h];exact iG _ _
  split at h
  ·rw[h];exact iG _ _
  unfold iL at h;split at h
  ·rw[h];exact iG _ _
  split at h
  ·rw[h];exact iG _ _
  obtain⟨f,R',h5,h6,h7⟩:=h;split at h7
  ·rw[h7];exact iG _ _
  rw[h7];refine BI (hp p m) (BJ (hS p m) h6 fun i c' hi ec=>?_);obtain⟨c,e1,e2,e3⟩:=Ag ec;have g:=Cc (hG p m) h5 i c hi e1;refine⟨by have:=g.2.2;lia,fun r hr=>?_⟩;rcases e3 r hr with y|y
  ·exact(g.1 r y).yy
  ·rw[y];exact(Ah num L).yy
end L2
namespace LT
open PySem PySem.Spec PyProof.Rows L2
section
variable[KN]{prog:Program}{w:World}{A:Around}{E:Value->Shared->Prop}{s:Shared}[vE prog w A E s]{a₀:Array Keyed}{z:SortSt}{lo:Nat}
theorem zg{st:SortSt}{nrem:Nat}{Q:Option Nat->SortSt->Prop}(h0:qG a₀)(hB:SA a₀ z lo st)(hn:lo+nrem<=a₀.size)(h1:1<=nrem)(hs:lQ (arrOf st) lo nrem)(h:Q (some nrem) st):wpS (model prog w) A E s (countRun' lo nrem) Q st:=by
 rw[countRun'_eq];have one:lQ (arrOf st) lo 1:=fun i j hij hj=>by
  have e:i=j:=by omega
  subst e;exact Int.le_refl _
 refine Hi (sF (fun _ _=>rfl) (fun _ _=>rfl) h0 hB hn (Gr 1) h1 one fun n n1 n2 sn hor=>?_);dsimp only;have e:n=nrem:=by
  rcases hor with e|e
  ·exact e
  ·by_cases c:n=nrem
   ·exact c
   ·have:=hs (n-1) n (by lia) (by lia);rw[show lo+(n-1)=lo+n-1 by lia]at this
    lia
 subst e;rw[Gz (by simp)];exact HL h
theorem tU{n:Nat}(h:n<64)(h1:1<=n):minRun' n n 0=n:=by
 cases n with
 |zero=>lia
 |succ k=>show(if k+1<64 then k+1+0 else _)=_;rw[Gz h]
theorem nV{st:SortSt}{Q:Unit->SortSt->Prop}(h0:qG a₀)(pm:(arrOf st).Perm a₀)(kd:kindOf st=kd0)(fl:failedOf st=none)(pd:pendingOf st= #[])(h2:1<=a₀.size)(hor:a₀.size<64\/SortedTo (arrOf st) a₀.size)
  (h:∀st',(arrOf st').Perm a₀->failedOf st'=none->SortedTo (arrOf st') a₀.size->Q () st'):wpS (model prog w) A E s sortRuns' Q st:=by
 rw[sortRuns'_eq];refine Hi (wpS_get ?_);dsimp only;have sz:(arrOf st).size=a₀.size:=pm.size_eq;rw[sz];refine Hi (wpS_mono (wpS_forRange (I:=fun x c st'=>(x=0/\c=(none,0)/\st'=st)\/(c=(none,a₀.size)/\(arrOf st').Perm a₀/\failedOf st'=none/\SortedTo (arrOf st') a₀.size/\(pendingOf st').size<=1)) (Q:=fun c st'=>c=(none,a₀.size)/\(arrOf st').Perm a₀/\failedOf st'=none/\SortedTo (arrOf st') a₀.size/\(pendingOf st').size<=1) ?step ?fin (.inl ⟨rfl,rfl,rfl⟩)) ?post)
 case fin=>
  rintro c st' (⟨e,_⟩|y)
  ·exfalso;lia
  ·exact y
 case step=>
  rintro x c st1 _ hx (⟨_,rfl,rfl⟩|⟨rfl,y⟩)
  ·dsimp only;rw[Gu (by lia)];have B1:SA a₀ st1 0 st1:=⟨pm,kd,fl,rfl,fun _ _=>rfl⟩
   have key:∀st3:SortSt,SA a₀ st1 0 st3->lQ (arrOf st3) 0 a₀.size->pendingOf st3= #[]/\SortedTo (arrOf st3) a₀.size:=fun st3 B3 sn=>⟨B3.pend.trans pd,fun i j hij hj=>by
    have:=sn i j hij hj;rw[Ib,Ib]at this
    exact this⟩
   rcases hor with h64|so
   ·refine Hi (Bf h0 B1 (by lia) (by lia) fun m st2 B2 m1 m2 sn2=>?_);dsimp only;rw[tU h64 h2];by_cases c2:m<a₀.size
    ·rw[Gz c2];refine Hi (wpS_lift (wpAny_rule ⟨rfl,?_⟩));rw[show min (a₀.size-0) a₀.size=a₀.size by lia];refine Hi (rB h0 (by lia) (by lia) B2 sn2 fun st3 B3 sn3=>?_)
     try dsimp only
     rw[Gu (by decide)];obtain⟨pe,so⟩:=key st3 B3 sn3;refine Hi (wpS_get ?_);rw[pe];refine Hi (wpS_modify (HL (.inr ⟨by rw[Ib],B3.perm,B3.failed,so,?_⟩)));show((pendingOf st3).push _).size<=1;rw[pe];exact Gr _
    ·rw[Gu c2];have:m=a₀.size:=(by lia);subst this;obtain⟨pe,so⟩:=key st2 B2 sn2;refine Hi (wpS_get ?_);rw[pe];refine Hi (wpS_modify (HL (.inr ⟨by rw[Ib],B2.perm,B2.failed,so,?_⟩)));show((pendingOf st2).push _).size<=1;rw[pe];exact Gr _
   ·refine Hi (zg h0 B1 (by omega) (by omega) (fun i j hij hj=>?_) ?_)
    ·rw[Ib,Ib];exact so i j hij (by lia)
    dsimp only;have sn0:lQ (arrOf st1) 0 (a₀.size-0):=fun i j hij hj=>by rw[Ib,Ib];exact so i j hij (by omega)
    by_cases c2:a₀.size-0<minRun' a₀.size a₀.size 0
    ·rw[Gz c2];refine Hi (wpS_lift (wpAny_rule ⟨rfl,?_⟩));rw[show min (a₀.size-0) (minRun' a₀.size a₀.size 0)=a₀.size by lia];refine Hi (rB h0 (by omega) (by lia) B1 sn0 fun st3 B3 sn3=>?_)
     try dsimp only
     rw[Gu (by decide)];obtain⟨pe,so⟩:=key st3 B3 sn3;refine Hi (wpS_get ?_);rw[pe];refine Hi (wpS_modify (HL (.inr ⟨by rw[Ib],B3.perm,B3.failed,so,?_⟩)));show((pendingOf st3).push _).size<=1;rw[pe];exact Gr _
    ·rw[Gu c2];refine Hi (wpS_get ?_);rw[pd];refine Hi (wpS_modify (HL (.inr ⟨by rw[Ib];rfl,pm,fl,so,?_⟩)));show((pendingOf st1).push _).size<=1;rw[pd];exact Gr _
  ·dsimp only;rw[Gz (by lia)];exact HL ⟨rfl,y⟩
 case post=>
  rintro c st1 ⟨rfl,p1,p2,p3,p4⟩;dsimp only;refine Hi (wpS_mono (wpS_forRange (I:=fun x c st'=>c=(none,())/\st'=st1) (Q:=fun c st'=>c=(none,())/\st'=st1) ?fstep ?ffin ⟨rfl,rfl⟩) ?fpost)
  case ffin=>exact fun c st' y=>y
  case fstep=>rintro x c st' _ hx ⟨rfl,rfl⟩;refine Hi (wpS_get ?_);rw[Gz p4];exact HL ⟨rfl,rfl⟩
  case fpost=>rintro c st' ⟨rfl,rfl⟩;exact HL (h _ p1 p2 p3)
end
section
variable{prog:Program}{w:World}{A:Around}{E:Value->Shared->Prop}{s:Shared}
theorem sM{vs:List Value}{ns:List Int}(hI:IntsAre vs ns)(up:ns.Pairwise (·<=·)): @SortedTo knI (pairsOf vs) (pairsOf vs).size:=by
 have at_:∀{vs:List Value}{ns:List Int},IntsAre vs ns->∀i,i<vs.length->∃n t,vs[i]?=some (.int n t)/\ns[i]?=some n:=by
  intro vs ns h
  induction h with
  |nil=>exact fun i hi=>nomatch hi
  |cons n t _ ih=>
   intro i hi;cases i with
   |zero=>exact⟨n,t,rfl,rfl⟩
   |succ i=>exact ih i (Nat.lt_of_succ_lt_succ hi)
 have kat:∀i,i<vs.length->∃n,ns[i]?=some n/\ @K knI (pairsOf vs) i=n:=fun i hi=>by obtain⟨n,t,e1,e2⟩:=at_ hI i hi;refine⟨n,e2,?_⟩;unfold K;rw[<-HU,pairsOf_toList,(List.getElem?_zip_eq_some (z:=((Value.int n t:Value),(Value.int n t:Value)))).mpr ⟨e1,e1⟩];rfl
 intro i j hij hj;rw[pairsOf_size]at hj;obtain⟨n,e1,k1⟩:=kat i (by lia);obtain⟨m,e2,k2⟩:=kat j hj;rw[k1,k2];rcases Nat.lt_or_eq_of_le hij with c|c
 ·obtain⟨g1,q1⟩:=GA.mp e1;obtain⟨g2,q2⟩:=GA.mp e2;rw[<-q1,<-q2];exact List.pairwise_iff_getElem.mp up i j g1 g2 c
 ·subst c;rw[e1]at e2;cases e2;exact Int.le_refl _
theorem vL{a:Addr}{vs:List Value}{ns:List Int}{n:Nat}{P:PySem.Fin->Shared->Prop}(ho:s.heap.get? a=some (seqObj "list" vs.toArray n))(hI:IntsAre vs ns)(h64:vs.length<1000)(up:ns.Pairwise (·<=·))
  (h:∀(out:Array Value)(ns':List Int),IntsAre out.toList ns'->ns'.Perm ns->ns'.Pairwise (·<=·)->P (.done (.ret .none)) {s with heap:=sortedHeap s.heap a vs out}):
  wpAny (model prog w) A (Builtin.«list.sort» ⟨[.ref a],[]⟩) P E s:=by
 by_cases l64:vs.length<64
 ·exact list_sort_tree ho hI l64 h
 rw[list_sort_plain];have ha:a<s.heap.objs.size:=GG ho;refine Gg (listItems_at ho rfl ?_);refine Gg (listUpdate_at ho rfl ?_ (by rw[Gq,Hl];lia) (G1 _));obtain⟨e1,ho1⟩:∃e1,(s.heap.update a (Obj.mapSeq fun _=> #[])).get? a=some (seqObj "list" #[] e1):=⟨_,get?_update_seq ho (fun _=> #[])⟩;refine Gg (seqEpoch_at ho1 rfl ?_);refine Gg (wpAny_newTuple ?_ (by show vs.length<=_;rw[Hl];omega));refine Gg (wpAny_newList ?_ (G1 _));refine Hr ?_;have ho6:(((s.heap.update a (Obj.mapSeq fun _=> #[])).push (seqObj "tuple" vs.toArray 0)).push (seqObj "list" #[] 0)).get? a=some (seqObj "list" #[] e1):=Gi _ (Gi _ ho1);show wpAny (model prog w) A _ P E {s with heap:=((s.heap.update a (Obj.mapSeq fun _=> #[])).push (seqObj "tuple" vs.toArray 0)).push (seqObj "list" #[] 0)};dsimp only;have h2:¬vs.toArray.size<2:=by rw[Gq];lia
 rw[Gu h2,Gu h2];have kk:keyKind' vs.toArray=pure oneType':=by
  match vs,h2,hI with
  | [],h2,_=>simp at h2
  | [_],h2,_=>simp at h2
  |v1::v2::rest,_,hI=>exact keyKind_ints hI
 rw[kk];refine Gg (Gj ?_);letI:=knI;haveI:vE prog w A E {s with heap:=((s.heap.update a (Obj.mapSeq fun _=> #[])).push (seqObj "tuple" vs.toArray 0)).push (seqObj "list" #[] 0)}:=Ae;refine Gg (Ha (nV (a₀:=pairsOf vs) (st:=SortSt.mk' oneType' (vs.toArray.zip vs.toArray) #[] 7 none) (Q:=fun _ st'=>(arrOf st').Perm (pairsOf vs)/\failedOf st'=none/\SortedTo (arrOf st') (pairsOf vs).size) (fun p hp=>?_) (Array.Perm.refl _) rfl rfl rfl (by rw[pairsOf_size];lia) (.inr (sM hI up)) fun st' q1 q2 q3=>⟨q1,q2,q3⟩) ?_ fun _ _ e=>e)
 ·rw[pairsOf_toList]at hp;exact hI.all _ (mem_zip_self hp).2
 rintro⟨⟨⟩,st'⟩ s' ⟨rfl,hp,hf,hs⟩;dsimp only;obtain⟨ns',i1,i2,i3⟩:=sorted_out hI hp hs;refine Gg (seqEpoch_at ho6 rfl ?_);refine Gg (listUpdate_at ho6 rfl ?_ (G1 _) (by rw[Array.size_map,hp.size_eq,pairsOf_size,Hl];lia));rw[hf];simp only[bne_self_eq_false,Hq,if_false];exact Gj (h _ ns' i1 i2 i3)
end
section
variable{X:Cx}
theorem lP(hc:X.calm=true):fE X (.builtin "sorted") (fun xs H Q=>∃(p:Addr)(kvs:List (Key×V))(ns:List Int),xs=[.ref p]/\Rd H p (.dK kvs)/\(kvs.map fun q=>kV q.1)=ns.map V.int/\ns.length<1000/\ns.Pairwise (·<=·)/\∀(l:Addr)(ns':List Int),H l=none->ns'.Perm ns->ns'.Pairwise (·<=·)->Q (.ref l) (upd H l (.lst (ns'.map V.int)))):=by
 intro pins s σ H xs us Q I r h;obtain⟨p,kvs,ns,rfl,hx,hk,h64,up,q⟩:=h;obtain⟨u,rfl,ru⟩:=vals1 r;cases ru;have ho:b9 X.prog X.w H s.heap p (.dK kvs):=by
  rcases hx with hx|⟨o,hx⟩
  ·exact I.hok p _ hx
  ·exact(I.hok p _ hx).2
 obtain⟨hz,hs,vs,rv,hD⟩:=ho;obtain⟨ep,hat⟩:=hD.dictAt;have hl:=rv.len;have hkl:=congrArg List.length hk;rw[Gh,Gh]at hkl;refine Calls.call_function_entry kind_sorted plain_sorted entry_sorted (args_sorted1 _) ?_;unfold Builtin.«sorted»;refine Gg (m:=checkCount "sorted" 1 1 _) (Gj ?_);refine Gg (PySem.W.kdu_collect (PySem.W.kdl_dict (knd:=bx X.prog X.w) (kvs:=vs) (ep:=ep) hs) (I.ok.hd hc) hat (by omega) fun h' tk acc hkeep hacc=>?_);have al:acc.toList.length=kvs.length:=by rw[Hh,hacc.1,hl]
 have va:=ve rv al fun j v e=>hacc.2 j v (by rw[<-HU];exact e);rw[hk]at va;have I1:=I.kept (t':=tk) hkeep;refine Gg (wpAny_newList ?_ (by omega));have gD:(h'.push (seqObj "list" acc.toList.toArray 0)).get? h'.objs.size=some (seqObj "list" acc.toList.toArray 0):=GO _ rfl;have fr:H h'.objs.size=none:=I1.hok.fresh (Gr _);refine Gg (Hr (HD slot_list_sort ⟨_,gD,rfl⟩ entry_list_sort (vL gD (intsAre_of va) (by lia) up fun out ns' hi pm so=>⟨_,rfl,?_⟩) (args_list_sort _)));obtain⟨e,he⟩:=sortedHeap_at (out:=out) gD;have pl':=pm.length_eq;refine Gj ⟨_,rfl,.ref _,_,I1.track (t':=tk) (n:=e) (its:=out.toList) (I1.fpOk (Gr _) fr) (fun b o hb z=>?_) (pB hi) (by rw[Gh,Hl];lia) he,rfl,q _ ns' fr pm so⟩;have lt:=GG z;rw[sortedHeap_old hb (by rw[size_push'];exact Nat.lt_succ_of_lt lt)];exact Gi _ z
end
section
variable{prog:Program}{w:World}{A:Around}{E:Value->Shared->Prop}{s:Shared}
theorem x8{a:Addr}{zs:AN}{n:Nat}{P:PySem.Fin->Shared->Prop}(ho:s.heap.get? a=some (seqObj "list" (vals zs).toArray n))(hz:∀z∈zs,wO s.heap z.1 z.2)(nd:(zs.map (·.2)).Nodup)(one:CD zs)(h64:zs.length<64)
  (h:∀ys:AN,ys.Perm zs->(ys.map (·.2)).Pairwise leS->P (.done (.ret .none)) {s with heap:=sortedHeap s.heap a (vals zs) (vals ys).toArray}):
  wpAny (model prog w) A (Builtin.«list.sort» ⟨[.ref a],[]⟩) P E s:=by
 rw[list_sort_plain];have ha:a<s.heap.objs.size:=GG ho;have lz:(vals zs).length=zs.length:=Gh ..;refine Gg (listItems_at ho rfl ?_);refine Gg (listUpdate_at ho rfl ?_ (by rw[Gq,lz,Hl];lia) (G1 _));obtain⟨e1,ho1⟩:∃e1,(s.heap.update a (Obj.mapSeq fun _=> #[])).get? a=some (seqObj "list" #[] e1):=⟨_,get?_update_seq ho (fun _=> #[])⟩;refine Gg (seqEpoch_at ho1 rfl ?_);refine Gg (wpAny_newTuple ?_ (by show(vals zs).length<=_;rw[lz,Hl];omega));refine Gg (wpAny_newList ?_ (G1 _));refine Hr ?_;have ho6:(((s.heap.update a (Obj.mapSeq fun _=> #[])).push (seqObj "tuple" (vals zs).toArray 0)).push (seqObj "list" #[] 0)).get? a=some (seqObj "list" #[] e1):=Gi _ (Gi _ ho1);have hz6:∀z∈zs,wO (((s.heap.update a (Obj.mapSeq fun _=> #[])).push (seqObj "tuple" (vals zs).toArray 0)).push (seqObj "list" #[] 0)) z.1 z.2:=fun z mz=>by
  obtain⟨o,its,n',t,f1,f2,f3,f4⟩:=hz z mz;have na:z.1≠a:=fun w=>by rw[w,ho]at f1;cases f1;have f2':Value.type "list"=Value.type "tuple":=f2;exact absurd f2' (by decide)
  exact⟨o,its,n',t,Gi _ (Gi _ (((Ht s.heap a _).2 z.1 na).trans f1)),f2,f3,f4⟩
 show wpAny (model prog w) A _ P E {s with heap:=((s.heap.update a (Obj.mapSeq fun _=> #[])).push (seqObj "tuple" (vals zs).toArray 0)).push (seqObj "list" #[] 0)};dsimp only;have pz:(pairsOf (vals zs)).toList=zs.map fun z=>((.ref z.1,.ref z.1):Keyed):=by rw[pairsOf_toList];unfold vals;rw[List.zip_map']
 have outL:∀{ar:Array Keyed}{ys:AN},ar.toList=ys.map (fun z=>((.ref z.1,.ref z.1):Keyed))->ar.map (·.2)=(vals ys).toArray:=fun {ar ys} e=>by apply Array.ext';rw[Array.toList_map,e,HR];rfl
 by_cases h2:(vals zs).toArray.size<2
 ·rw[Gz h2,Gz h2];refine Gg (Gj ?_);rw[StateT.run_pure];refine Gg (Gj ?_);dsimp only;refine Gg (seqEpoch_at ho6 rfl ?_);have eo:=outL (ar:=pairsOf (vals zs)) (ys:=zs) pz;refine Gg (listUpdate_at ho6 rfl ?_ (G1 _) (by show((pairsOf (vals zs)).map (·.2)).size<=_;rw[eo,Gq,lz,Hl];lia));simp only[bne_self_eq_false,Hq,if_false];refine Gj ?_;show P _ {s with heap:=(((s.heap.update a (Obj.mapSeq fun _=> #[])).push (seqObj "tuple" (vals zs).toArray 0)).push (seqObj "list" #[] 0)).update a (Obj.mapSeq fun _=>(pairsOf (vals zs)).map (·.2))};rw[eo];refine h zs (.refl _) ?_;rw[Gq,lz]at h2
  match zs,h2 with
  | [],_=>exact .nil
  | [z],_=>exact List.pairwise_singleton _ _
 ·rw[Gu h2,Gu h2];rw[Gq,lz]at h2;refine Gg (Al hz6 (fun w=>h2 (by rw[w];decide)) ?_);letI:=DV zs;haveI:vE prog w A E {s with heap:=((s.heap.update a (Obj.mapSeq fun _=> #[])).push (seqObj "tuple" (vals zs).toArray 0)).push (seqObj "list" #[] 0)}:=Ad hz6 nd one (fun v=>by simp);refine Gg (Ha (nV (a₀:=pairsOf (vals zs)) (st:=SortSt.mk' (tuples' true) ((vals zs).toArray.zip (vals zs).toArray) #[] 7 none) (Q:=fun _ st'=>(arrOf st').Perm (pairsOf (vals zs))/\failedOf st'=none/\SortedTo (arrOf st') (pairsOf (vals zs)).size) (fun p hp=>?_) (Array.Perm.refl _) rfl rfl rfl (by rw[pairsOf_size,lz];lia) (.inl (by rw[pairsOf_size,lz];lia)) fun st' q1 q2 q3=>⟨q1,q2,q3⟩) ?_ fun _ _ e=>e)
  ·rw[pz]at hp;obtain⟨z,mz,rfl⟩:=Gm.mp hp;exact⟨z,mz,rfl⟩
  rintro⟨⟨⟩,st'⟩ s' ⟨rfl,hp,hf,hs⟩;dsimp only;obtain⟨ys,py,ey⟩:=uK (f:=fun z:Addr×Str=>((.ref z.1,.ref z.1):Keyed)) (zs:=zs) (l:=(arrOf st').toList) (by rw[<-pz];exact Array.perm_iff_toList_perm.mp hp);have eo:=outL ey;have ly:(vals ys).length=zs.length:=by rw[vals,Gh];exact py.length_eq
  refine Gg (seqEpoch_at ho6 rfl ?_);refine Gg (listUpdate_at ho6 rfl ?_ (G1 _) (by show((arrOf st').map (·.2)).size<=_;rw[eo,Gq,ly,Hl];omega));rw[hf];simp only[bne_self_eq_false,Hq,if_false];refine Gj ?_;rw[eo];refine h ys py ?_;rw[List.pairwise_iff_getElem];intro i j hi hj hij;rw[Gh]at hi hj;have sz:(pairsOf (vals zs)).size=ys.length:=by rw[pairsOf_size,lz];exact py.length_eq.symm
  have le:=hs i j (HQ hij) (by rw[sz];exact hj);have at_:∀k(hk:k<ys.length),K (arrOf st') k=(rank zs (ys[k]'hk).2:Int):=fun k hk=>by unfold K;rw[<-HU,ey,GX,GB hk];show((rank zs (nameAt zs (ys[k]'hk).1):Nat):Int)=_;rw[nH one (py.mem_iff.mp (Ig hk))]
  rw[at_ i hi,at_ j hj]at le;rw[List.getElem_map,List.getElem_map];unfold leS;rw[ltCps_eq];refine GZ fun w=>?_;have:=tj (py.mem_iff.mp (Ig hj)) (y:=(ys[i]'hi).2) (GN w)
  lia
end
section
variable{X:Cx}
theorem wJ:fE X (.builtin "sorted") (fun xs H Q=>∃(p:Addr)(zs:AN),xs=[.ref p]/\SqL X.K H p (zs.map fun z=>V.ref z.1)/\(∀z∈zs,∃r,SqT X.K H z.1 (.str z.2::r))/\(zs.map (·.2)).Nodup/\zs.length<64/\
  ∀(l:Addr)(ys:AN),H l=none->ys.Perm zs->(ys.map (·.2)).Pairwise leS->Q (.ref l) (upd H l (.lst (ys.map fun z=>V.ref z.1)))):=by
 intro pins s σ H xs us Q I r h;obtain⟨p,zs,rfl,hx,hz,nd,h64,q⟩:=h;obtain⟨u,rfl,ru⟩:=vals1 r;cases ru;obtain⟨vs,rv,pl,hzl⟩:=I.list hx;have refs:∀{ys:AN}{us:List Value},Vals (ys.map fun z=>V.ref z.1) us->us=vals ys:=by
  intro ys
  induction ys with
  |nil=>intro us r;cases r;rfl
  |cons z ys ih=>
   intro us r;rw[GC]at r;cases r with
   |cons a b=>cases a;rw[ih b];rfl
 have valsR:∀ys:AN,Vals (ys.map fun z=>V.ref z.1) (vals ys):=by
  intro ys
  induction ys with
  |nil=>exact .nil
  |cons z ys ih=>exact .cons rfl ih
 obtain rfl:=refs rv;have tn:∀z∈zs,wO s.heap z.1 z.2:=fun z mz=>by
  obtain⟨r,hr⟩:=hz z mz;obtain⟨its,rv',⟨o,e1,e2,n,e3⟩,_⟩:=I.tuple hr;cases rv' with
  |cons a b=>obtain⟨t,rfl⟩:=a;exact⟨o,_,n,t,e1,e2,e3,rfl⟩
 have one:CD zs:=fun z mz y my e=>by obtain⟨r1,h1⟩:=hz z mz;obtain⟨r2,h2⟩:=hz y my;rw[e]at h1;have:=I.tuple_inj h1 h2;exact V.str.inj (List.cons.inj this).1
 have lz:(vals zs).length=zs.length:=Gh ..;refine Calls.call_function_entry kind_sorted plain_sorted entry_sorted (args_sorted1 _) ?_;unfold Builtin.«sorted»;refine Gg (m:=checkCount "sorted" 1 1 _) (Gj ?_);refine Gg (collect_list pl.isList ?_ (by rw[lz,Hl];omega));refine Gg (wpAny_newList ?_ (by show(vals zs).length<=_;rw[lz,Hl];omega));have hsz:((s.heap.push (seqObj "list" #[] 0)).update s.heap.objs.size (Obj.mapSeq (·++(vals zs).toArray))).objs.size=s.heap.objs.size+1:=by rw[Heap.size_update,size_push']
 have hoL:(((s.heap.push (seqObj "list" #[] 0)).update s.heap.objs.size (Obj.mapSeq (·++(vals zs).toArray))).push (seqObj "list" (vals zs).toArray 0)).get? (s.heap.objs.size+1)=some (seqObj "list" (vals zs).toArray 0):=by rw[<-hsz];exact GO _ rfl
 have kp:∀b o,s.heap.get? b=some o->(((s.heap.push (seqObj "list" #[] 0)).update s.heap.objs.size (Obj.mapSeq (·++(vals zs).toArray))).push (seqObj "list" (vals zs).toArray 0)).get? b=some o:=fun b o e=>Gi _ (((Ht _ s.heap.objs.size _).2 b (G5 (GG e))).trans (Gi _ e))
 show wpAny _ _ _ _ _ {s with heap:=((s.heap.push (seqObj "list" #[] 0)).update s.heap.objs.size (Obj.mapSeq (·++(vals zs).toArray))).push (seqObj "list" (vals zs).toArray 0)};rw[hsz];refine Gg (Hr (HD slot_list_sort ⟨_,hoL,rfl⟩ entry_list_sort (x8 hoL (fun z mz=>?_) nd one h64 fun ys py so=>⟨_,rfl,?_⟩) (args_list_sort _)))
 ·obtain⟨o,its,n,t,e1,e2,e3,e4⟩:=tn z mz;exact⟨o,its,n,t,kp _ _ e1,e2,e3,e4⟩
 refine Gj ⟨_,rfl,?_⟩;obtain⟨e,he⟩:=sortedAll_at s.heap (vals zs) (vals ys).toArray;have fr:H (s.heap.objs.size+1)=none:=I.hok.fresh (Nat.le_succ _);have ly:=py.length_eq;exact⟨.ref _,_,I.track (t':=s.toks) (n:=e) (its:=vals ys) (I.fpOk (Nat.le_succ _) fr) (fun b o _ z=>sortedAll_old z) (valsR ys) (by rw[Gh,Hl];lia) he,rfl,q _ ys fr py so⟩
end
end LT
namespace L2
open PySem PySem.W
theorem dw{g:(St->Hp->Prop)->Prop}{t:TS}{D:Ends}(k:let D':=D;g fun σ2 H2=>t D' σ2 H2):g (fun σ2 H2=>t D σ2 H2):=k
theorem eI{t:TS}{D:Ends}{σ:St}{H:Hp}(k:let D':=D;t D' σ H):t D σ H:=k
theorem dM{g:(St->Hp->Prop)->Prop}{tt:TT}{te:TE}{q:VK}{r:Hp->Prop}(k:let q':=q;let r':=r;g fun σ2 H4=>tt σ2 H4 fun b H5=>if b=true then te σ2 H5 q' else r' H5):g (fun σ2 H4=>tt σ2 H4 fun b H5=>if b=true then te σ2 H5 q else r H5):=k
noncomputable def EV:Stmt->List Stmt
 | .For _ _ b _ _=>b
 | .While _ b _ _=>b
 |_=>[]
theorem bS{X:Cx}{body:List Stmt}{Z:TS->Prop}(k j:Nat){u:TS}(r:PSs X ((EV (body.getD k (.Pass ⟨0,0,0,0⟩))).drop j) u)(h:let R:=u;PSs X ((EV (body.getD k (.Pass ⟨0,0,0,0⟩))).drop j) R->∃t,PSs X body t/\Z t):∃t,PSs X body t/\Z t:=h r
end L2
namespace My
open PySem L2 LM PyProof.Rows
noncomputable abbrev Pg:Program:=PySem.Challenge.rw_landroll_k46_lays_and_notes.prog
noncomputable def top(i:Nat):Stmt:=PySem.Challenge.pw_landroll_k46_lays_and_notes.main.body.getD i (.Pass ⟨0,0,0,0⟩)
noncomputable abbrev d3:Stmt:=(fB (top 16)).getD 0 (.Pass ⟨0,0,0,0⟩)
noncomputable abbrev eK:Stmt:=(fB (top 16)).getD 2 (.Pass ⟨0,0,0,0⟩)
noncomputable abbrev dH:Stmt:=(fB (top 33)).getD 3 (.Pass ⟨0,0,0,0⟩)
noncomputable abbrev c7:Stmt:=(fB (top 33)).getD 4 (.Pass ⟨0,0,0,0⟩)
noncomputable abbrev ft:Stmt:=(fB (top 33)).getD 0 (.Pass ⟨0,0,0,0⟩)
noncomputable abbrev eN:Stmt:=(fB (top 33)).getD 6 (.Pass ⟨0,0,0,0⟩)
noncomputable abbrev fq:Stmt:=(fB (top 33)).getD 5 (.Pass ⟨0,0,0,0⟩)
noncomputable abbrev cT:Stmt:=(fB (top 33)).getD 7 (.Pass ⟨0,0,0,0⟩)
noncomputable abbrev dI:Stmt:=(fB (top 33)).getD 8 (.Pass ⟨0,0,0,0⟩)
noncomputable abbrev iP:Stmt:=(fB (top 33)).getD 10 (.Pass ⟨0,0,0,0⟩)
section
set_option maxHeartbeats 4000000
local macro_rules
 | `(tactic|trivial)=> `(tactic|first|exact Or.inl rfl|exact Or.inr rfl|decide+kernel|exact⟨rfl,rfl,rfl,by decide+kernel,rfl,by decide+kernel,by decide+kernel⟩)
variable{P:Program}{w:World}{K:Frag}{mg:Str->Option Value}{base:Heap}
noncomputable abbrev t8:Stmt:=(fB (top 3)).getD 0 (.Pass ⟨0,0,0,0⟩)
theorem ye:aA ["self","text","word","who"] ["self","text","word","who"] (ak t8):=by trivial
theorem yr{bc ie:Addr}(T:TxX K mg "Falls" bc t8 ["self","text","word","who"] "Falls.__init__")(jK:CH K mg "LandError" ie)(iN:A9 K bc "word")(jn:A9 K bc "who"):DfX P w K mg base 1 "Falls" bc ["self","text","word","who"] (Dp bc "word" "who"):=by
 refine T.df ye (fun vs H Q E h=>?_) (fun f _ A _ s H vs Q E M hr h=>?_)
 ·obtain⟨x,tv,v0,v1,rfl,hx,q⟩:=h;rfl
 ·obtain⟨x,tv,v0,v1,rfl,hx,q⟩:=h;refine⟨_,(ai (cO (zP jK (aa (pv 0) (aa (pv 1) ag)))) (ai (xa (pv 0) (pv 2)) (aj (xa (pv 0) (pv 3))))),?_⟩;refine⟨_,rfl,_,rfl,x,bc,f,[tv],rfl,aK rfl,hx,M.ok,_,rfl,_,rfl,x,bc,rfl,iN,.inl ⟨hx,fun dx hd ne=>⟨_,rfl,_,rfl,x,bc,rfl,jn,.inr ⟨dx,_,Bj ne,af,(by decide:(1:Nat)<=100),by rw[aZ];exact q dx hd ne⟩⟩⟩⟩
variable{ck aP bc:Addr}
variable(B:Bn mg)
variable(cZ:dR mg "Paper" ck)
variable(cf:dR mg "Lay" aP)
variable(d8:CI K mg "Paper" ck "__init__")
variable(vz:mg "sum"=none)
variable(cD:DfX P w K mg base 1 "Falls" bc ["self","text","word","who"] (Dp bc "word" "who"))
variable(bC:dR mg "Falls" bc)
variable(bu:uu K bc)
variable(jY:∃t,mg "DEEPEST"=some (.int 12 t))
variable(mU:A8 K mg "Falls" bc)
variable(gp:RdX K bc "word")
variable(hV:RdX K bc "who")
variable(jc:mg "reversed"=none)
variable(vh:MkC K mg "Lay" aP)
variable(xQ:Cls K aP)
variable(dA:aW K aP "number")
variable(d6:aW K aP "since")
variable(dz:aW K aP "signed")
variable(gC:aW K aP "at")
variable(fm:aW K aP "kind")
variable(dB:aW K aP "holder")
variable(dD:aW K aP "amount")
variable(d4:aW K aP "until")
variable(fh:aW K aP "over")
variable(fj:aW K aP "note")
variable(dC:aW K aP "ground")
variable(d5:aW K aP "trust")
variable(fu:findIn K (.ref aP) "wanting"=findIn K (.ref ck) "wanting")
def zw(K:Frag):Sp:=fun vs H Q _=>∃(c:Nat)(k:Int),vs=[.int c,.int k]/\Q (.bl (decide (0<=k)&&c.testBit k.toNat)) H
variable(xO:Df P w K mg base 1 "has" ["cells","cell"] (zw K))
theorem Ds:aA ["cells","cell"] ["cells","cell"] (ak (top 5)):=by trivial
include B in
theorem DK(T:Tx K mg "has" (top 5) ["cells","cell"]):Df P w K mg base 1 "has" ["cells","cell"] (zw K):=by
 refine T.df Ds (by rintro _ _ _ _ ⟨c,k,rfl,q⟩;rfl) ?_;rintro f _ A _ s H _ Q E hr ⟨c,k,rfl,q⟩;refine⟨_,(aj (aC (nv (cB CS (pv 1) ae (aE _)) (kT (cB cj (aq ij (aq DF (pv 0) (pv 1)) ae) ae (aE _)))))),?_⟩;refine⟨_,rfl,_,_,rfl,rfl,_,rfl,?_⟩;refine bf (fun h0=>?_) (fun h0=>?_)
 ·have h0':0<=k:=GU h0;refine⟨_,rfl,_,rfl,_,_,rfl,rfl,h0',_,_,rfl,rfl,rfl,?_⟩;rw[D3 c k h0'];exact q
 ·have e:decide (0<=k)=false:=by simpa using h0
  rw[e]at q;exact q
def rG(K:Frag):Sp:=fun vs H Q _=>∃(c:Nat),vs=[.int c]/\c<2^64/\(c=0->Q .non H)/\(c≠0->Q (.int (cb c:Nat)) H)
variable(m4:Df P w K mg base 1 "lowest" ["cells"] (rG K))
theorem yd:aA ["cells"] ["cells"] (ak (top 6)):=by trivial
include B in
theorem yo(T:Tx K mg "lowest" (top 6) ["cells"]):Df P w K mg base 1 "lowest" ["cells"] (rG K):=by
 refine T.df yd (by rintro _ _ _ _ ⟨c,rfl,hc,q0,q1⟩;rfl) ?_;rintro f _ A _ s H _ Q E hr ⟨c,rfl,hc,q0,q1⟩;refine aO ?_;intro kX;refine ah 1 (aj (aC (aq eY (vW PySem.F.plainAttrs_int PySem.F.slot_int_bit_length PySem.F.type_int_bit_length B0 (aq ij (pv 0) (xk Dc (pv 0)))) ae))) ?_;intro kR1 pR1;refine⟨_,(ai (aT (aD cj (pv 0) ae (aE _)) (aj (aC cL)) aG) pR1),?_⟩;refine⟨_,rfl,rfl,_,rfl,?_⟩;refine bf (fun h0=>?_) (fun h0=>?_)
 ·exact q0 (by have:=V.int.inj (GU h0);lia)
 ·have hne:c≠0:=fun z=>h0 (by rw[z];rfl);have q2:=q1 hne;rw[<-Af hc hne]at q2;exact⟨_,rfl,_,rfl,_,rfl,_,_,rfl,rfl,rfl,_,rfl,rfl,_,_,rfl,rfl,q2⟩
def kx(K:Frag):Sp:=fun vs H Q _=>∃(l:Addr)(xs:List V)(C:List Col)(rs:List (List Key)),vs=[.ref l]/\SqL K H l xs/\Paired (yW K H) xs C/\(∀c∈C,∀r∈c,r∈rs)/\rs.length<=59/\(∀r∈rs,eE r)/\(rs.map aN).Nodup/\∀(a:Addr)(T:Col)(H':Hp),ao H H'->A6 C T->bX K H' a T->Q (.ref a) H'
variable(gA:Df P w K mg base 1 "burdens_in" ["columns"] (kx K))
theorem fL:aA ["columns","found","column","burden"] ["columns"] (ak (top 10)):=by trivial
include B in
theorem qY(T:Tx K mg "burdens_in" (top 10) ["columns"]):Df P w K mg base 1 "burdens_in" ["columns"] (kx K):=by
 refine T.df fL (by rintro _ _ _ _ ⟨l,xs,C,rs,rfl,hl,pr,hsub,hrs,hib,nd,q⟩;rfl) ?_;rintro f _ A _ s H _ Q E hr ⟨l,xs,C,rs,rfl,hl,pr,hsub,hrs,hib,nd,q⟩;have hu:=hr.units;refine aO ?_;intro kX;refine ah 2 (aj (aC (bO bW (by rfl) B.tuple boot_tuple (aa (bR ["number"] [("found",1)] (fC _ ["found"]) rfl (by rfl) rfl (by trivial) (by trivial) (aU (by rfl)) (cC (by rfl)) (mC ⟨rfl,rfl⟩ mN) (mC rfl mN) (bE (by decide)) (dJ (aV (qC rfl) (by rfl) B.sorted (by trivial) (aa (pv 1) ag))) (fun _ _ _ _=>aM (i:=0) (show(["number","found"]:List Str).Nodup by trivial) rfl (Or.inl rfl) (Or.inr rfl)) (fun _ _ _ _=>bQ) (fun _ _ _ _=>(mG (kG hr) (pv 1) (pv 0) (fun _ _=>rfl)))) ag)))) ?_;intro kR2 pR2;refine ah 1 (ai (cq GW rfl (dJ (pv 0)) (aM (i:=2) fL.nd rfl (by trivial)) (aj (cq GW rfl (eF (pv 2)) (aM (i:=3) fL.nd rfl (by trivial)) (aj (mD (kG hr) (pv 1) (aH aL (pv 3) ae (fun _ _=>rfl)) (pv 3) rfl))))) pR2) ?_;intro kR1 pR1;refine⟨_,(ai (aw (i:=1) fL.nd rfl (by trivial) mF) pR1),?_⟩;have inj:=tS nd;have lx:xs.length=C.length:=Gw pr;have len:∀(D:List (List Key)),(D.map aN).Nodup->(∀r∈D,r∈rs)->D.length<=59:=fun D n1 h1=>by
  have:=HI n1 (l₂:=rs.map aN) fun x hx=>by obtain⟨r,hr,e⟩:=Gm.mp hx;exact Gm.mpr ⟨r,h1 r hr,e⟩
  rw[Gh,Gh]at this
  lia
 intro d hd;refine⟨_,rfl,l,rfl,⟨_,(ao.upd hd).seq hl⟩,eJ (K:=K) (a:=l) (xs:=xs) (fun i σ H2=>∃(o2 o3:Option V)(kvs:List (Key×V))(D:List (List Key)),σ=[some (.ref l),some (.ref d),o2,o3]/\H2=upd H d (.dK kvs)/\Paired (KB K H) kvs D/\(D.map aN).Nodup/\∀r,r∈D<->∃c∈C.take i,r∈c) ⟨none,none,[],[],rfl,rfl,.nil,List.nodup_nil,fun r=>by simp⟩ (fun i σ H2 _ hPz=>hPz.elim fun _ hPz=>hPz.elim fun _ hPz=>hPz.elim fun _ hPz=>hPz.elim fun _ hPz=>(fun e=>by rw[e];exact(ao.upd hd).seq hl) (hPz.2.1)) ?_ ?_⟩
 ·rintro i y σ H2 hi ⟨o2,o3,kvs,D,rfl,rfl,kb,nd2,hD⟩;refine dw ?_;intro kD1;obtain⟨c,hc,b,rfl,hb⟩:=aQ pr hi;have cin:=Gp hc;obtain⟨lay,ys,hy,py⟩:=id hb;have ly:ys.length=c.length:=Gw py;refine⟨_,rfl,b,rfl,⟨_,(ao.upd hd).tup hy⟩,gv (K:=K) (a:=b) (xs:=ys) (fun j σ H2=>∃(o3:Option V)(kvs:List (Key×V))(D:List (List Key)),σ=[some (.ref l),some (.ref d),some (.ref b),o3]/\H2=upd H d (.dK kvs)/\Paired (KB K H) kvs D/\(D.map aN).Nodup/\∀r,r∈D<->(∃c'∈C.take i,r∈c')\/r∈c.take j) ⟨o3,kvs,D,rfl,rfl,kb,nd2,fun r=>by rw[hD];simp⟩ (fun j σ H2 _ hPz=>hPz.elim fun _ hPz=>hPz.elim fun _ hPz=>hPz.elim fun _ hPz=>(fun e=>by rw[e];exact(ao.upd hd).tup hy) (hPz.2.1)) ?_ ?_⟩
  ·rintro j y σ H2 hj ⟨o3',kvs',D',rfl,rfl,kb',nd',hD'⟩;refine dw ?_;intro kD2;obtain⟨r,hr,a,rfl,ha⟩:=aQ py hj;have rin:r∈c:=Gp hr;have rrs:=hsub c cin r rin;have bur:bM K H (.ref a) r:=⟨lay r rin,a,rfl,ha⟩;have Dsub:∀x∈D',x∈rs:=fun x hx=>by
    rcases (hD' x).mp hx with⟨c',hc',z⟩|z
    ·exact hsub c' (Ii hc') x z
    ·exact hsub c cin x (Ii z)
   have ub:∀x∈D',aN x=aN r->x=r:=fun x hx e=>inj x (Dsub x hx) r rrs e;have lk:kvs'.length<=59:=(by rw[Gw kb'];exact len D' nd' Dsub);have put:=Ao bur kb' ub;have fin:∀x,x∈rl D' r<->(∃c'∈C.take i,x∈c')\/x∈c.take (j+1):=fun x=>by rw[vC ub,hD',GF,hr,G3,Gv,Gk,or_assoc]
   have nda:=xU (r:=r) nd';obtain⟨n,k,x,m,u,er⟩:=hib r rrs;have en:aN r=n:=(by rw[er];rfl);rw[en]at put;rw[er]at ha;refine⟨_,rfl,_,rfl,_,rfl,a,_,_,_,rfl,rfl,(ao.upd hd).tup ha,(au (j:=0) rfl),d,_,rfl,uw.k (k:=.inl n) af (aF (by lia)),?_⟩;exact⟨_,_,rl D' r,rfl,by rw[aZ],put,nda,fin⟩
  ·rintro σ H2 ⟨o3',kvs',D',rfl,rfl,kb',nd',hD'⟩;refine⟨_,_,kvs',D',rfl,rfl,kb',nd',fun r=>?_⟩;rw[hD',ly,GL,GF,hc,G3];constructor
   ·rintro(⟨c',h1,h2⟩|h)
    ·exact⟨c',GI _ h1,h2⟩
    ·exact⟨c,GQ _ (Gk.mpr rfl),h⟩
   ·rintro⟨c',h1,h2⟩;rcases Gv.mp h1 with z|z
    ·exact .inl ⟨c',z,h2⟩
    ·rw[Gk.mp z]at h2;exact .inr h2
 ·rintro σ H2 ⟨o2,o3,kvs,D,rfl,rfl,kb,nd2,hD⟩;rw[lx,GL]at hD;have Dsub:∀x∈D,x∈rs:=fun x hx=>by
   obtain⟨c',hc',z⟩:=(hD x).mp hx;exact hsub c' hc' x z
  have lD:=len D nd2 Dsub;have s1:=ao.upd (o:=.dK kvs) hd;have hd1:(upd H d (.dK kvs)) d=some (.dK kvs):=af;generalize (upd H d (.dK kvs))=H1 at s1 hd1 ⊢;refine⟨_,rfl,d,kvs,D.map aN,rfl,.inl hd1,xw kb,by rw[Gh];lia,fun l4 ns' hl4 pm so=>?_⟩;have s4:=ao.upd (o:=.lst (ns'.map V.int)) hl4;have h4:(upd H1 l4 (.lst (ns'.map V.int))) l4=some (.lst (ns'.map V.int)):=af;have ln:ns'.length<=59:=by rw[pm.length_eq,Gh];exact lD
  have hd4:=s4 _ _ hd1;have s14:=s1.trans s4;generalize (upd H1 l4 (.lst (ns'.map V.int)))=H4 at s4 h4 hd4 s14 ⊢;refine⟨l4,rfl,⟨_,SqL.of h4⟩,fun A1 hA1=>?_⟩;refine vw (K:=K) (a:=l4) (xs:=ns'.map V.int) (fun i acc H5=>H5=upd H4 A1 (.lst acc)/\∃T:List (List Key),Paired (bM K H) acc T/\T.map aN=ns'.take i/\∀r∈T,r∈D) ⟨rfl,[],.nil,rfl,fun _ z=>nomatch z⟩ (fun i acc H5 _ ⟨e,_⟩=>by rw[e];exact(ao.upd hA1).seq (SqL.of h4)) ?_ ?_
  ·rintro i y acc H5 hi ⟨rfl,T,pT,mT,sT⟩;refine dM ?_;intro kq3 kr3;obtain⟨n,hn,rfl⟩:∃n,ns'[i]?=some n/\y=.int n:=by
    rw[GX]at hi;cases e:ns'[i]? with
    |none=>rw[e]at hi;cases hi
    |some n=>rw[e]at hi;cases hi;exact⟨n,rfl,rfl⟩
   obtain⟨v,r,ev,hr,er,hv⟩:=An kb (pm.mem_iff.mp (Gp hn));have dg:=rA.k (k:=.inl n) ((ao.upd (o:=.lst acc) hA1) _ _ hd4);rw[ev]at dg;refine⟨_,rfl,_,rfl,d,_,rfl,dg,af,aF ?_,by rw[aZ],T++[r],Paired.app pT (.cons hv .nil),?_,fun x hx=>?_⟩
   ·have l1:acc.length=T.length:=Gw pT;have l2:=congrArg List.length mT;rw[Gh,GR]at l2
    lia
   ·rw[GK,mT,GF,hn,G3,GC,List.map_nil,er]
   ·rcases Gv.mp hx with z|z
    ·exact sT x z
    ·rw[Gk.mp z];exact hr
  ·rintro acc H5 ⟨rfl,T,pT,mT,sT⟩;rw[Gh,GL]at mT;have s5:=ao.upd (o:=.lst acc) hA1;refine⟨A1,_,rfl,.inl ⟨SqL.of af,fun a ha=>?_⟩⟩;have s6:=ao.upd (o:=.tup acc) ha;have sZ:=s14.trans (s5.trans s6);exact q a T _ sZ (C3 nd2 hD pm so mT sT) (bX.of (SqT.of af) (Paired.imp (fun _ _ z=>bM.tk sZ.tk z) pT))
def pN(K:Frag):Sp:=fun vs H Q _=>∃(a:Addr)(R:cw),vs=[.ref a]/\StrT K H a R/\R.length<=100/\∀(m:Int)(H':Hp),ao H H'->C4 (0::oC R) m->Q (.int m) H'
variable(ka:Df P w K mg base 1 "deepest" ["strips"] (pN K))
theorem vP:aA ["strips"] ["strips"] (ak (top 12)):=by trivial
include B in
theorem wa(T:Tx K mg "deepest" (top 12) ["strips"]):Df P w K mg base 1 "deepest" ["strips"] (pN K):=by
 refine T.df vP (by rintro _ _ _ _ ⟨a,R,rfl,hT,hz,q⟩;rfl) ?_;rintro f _ A _ s H _ Q E hr ⟨a,R,rfl,hT,hz,q⟩;refine⟨_,(aj (aC (BM rfl (by rfl) B.max (aa (bR ["strip"] [] (fC _ []) rfl (by rfl) rfl (by trivial) (by trivial) (aU (by rfl)) (cC (by rfl)) mN mN (bE (by decide)) (eF (pv 0)) (fun _ _ _ _=>aM (i:=0) (show(["strip"]:List Str).Nodup by trivial) rfl (Or.inl rfl) (Or.inr rfl)) (fun _ _ _ _=>bQ) (fun _ _ _ _=>(aV (kK (K:=K) rfl) (by rfl) B.len Hw (aa (aH (fN (K:=K) rfl) (pv 0) ae (fun _ _=>rfl)) ag)))) ag) ae))),?_⟩;obtain⟨vs,ha,pr⟩:=hT;have lv:vs.length=R.length:=Gw pr;refine⟨_,rfl,a,rfl,⟨_,ha⟩,fun A1 hA1=>?_⟩;refine oH (K:=K) (a:=a) (xs:=vs) (fun i acc H2=>H2=upd H A1 (.lst acc)/\acc=(oC (R.take i)).map V.int) ⟨rfl,rfl⟩ (fun i acc H2 _ ⟨e,_⟩=>by rw[e];exact(ao.upd hA1).tup ha) ?_ ?_
 ·rintro i y acc H2 hi ⟨rfl,rfl⟩;refine dM ?_;intro kq1 kr1;obtain⟨p,hp,r1,b,rfl,h1,hb⟩:=aQ pr hi;obtain⟨ys,hy,ly⟩:=hb.len;have s1:=ao.upd (o:=.lst ((oC (R.take i)).map V.int)) hA1;refine⟨_,rfl,r1,_,_,_,rfl,rfl,s1.tup h1,(au (j:=1) rfl),b,_,rfl,.inr (s1.tup hy),af,aF ?_,?_,?_⟩
  ·rw[Gh,oC,Gh,GR];lia
  ·rw[aZ]
  ·rw[GF,hp,G3,ly];simp[oC]
 ·rintro acc H2 ⟨rfl,rfl⟩;rw[lv,GL];have s1:=ao.upd (o:=.lst ((oC R).map V.int)) hA1;refine⟨A1,oC R,rfl,SqL.of af,fun e=>?_,fun ne m hm hall=>?_⟩
  ·exact q 0 _ s1 (by rw[e];exact⟨Gy ..,fun a h=>by rw[Gk.mp h];lia⟩)
  ·refine q m _ s1 ⟨Gs _ hm,fun a h=>?_⟩;rcases GH.mp h with z|z
   ·obtain⟨p,_,e⟩:=Gm.mp hm;rw[z,<-e]
    lia
   ·exact hall a z
def hU(K:Frag)(mg:Str->Option Value):Sp:=fun vs H Q _=>∃(a C dx sg:Addr)(num since:Int),vs=[.ref a,.int num,.int since,.ref sg]/\H a=some (.ins C dx [])/\xV K mg C/\Q .non (upd H a (.ins C dx (F2 num since sg)))
variable(eu:DfT P w K mg base CX0 1 ck "__init__" ["self","number","since","signed"] (hU K mg) [])
theorem mv:aA ["self","number","since","signed"] ["self","number","since","signed"] (ak d3):=by trivial
include B cZ in
theorem mI(T:TxM K ck "__init__" "Paper.__init__" d3 ["self","number","since","signed"] []):DfT P w K mg base CX0 1 ck "__init__" ["self","number","since","signed"] (hU K mg) []:=by refine T.df mv (by rintro _ _ _ _ ⟨a,C,dx,sg,num,since,rfl,ha,PC,q⟩;rfl) ?_;rintro f _ A _ s H _ Q E hr ⟨a,C,dx,sg,num,since,rfl,ha,PC,q⟩;refine aO ?_;intro kX;refine ah 2 (aj (f6 (pv 0) (pv 3) rfl)) ?_;intro kR2 pR2;refine ah 1 (ai (f6 (pv 0) (pv 2) rfl) pR2) ?_;intro kR1 pR1;refine⟨_,(ai (f6 (pv 0) (pv 1) rfl) pR1),?_⟩;refine⟨_,rfl,_,rfl,a,C,dx,_,rfl,ha,PC.cls,PC.num,by decide,?_⟩;refine⟨_,rfl,_,rfl,a,C,dx,_,rfl,af,PC.cls,PC.sin,(by show 1<1000;decide),?_⟩;refine⟨_,rfl,_,rfl,a,C,dx,_,rfl,af,PC.cls,PC.sig,(by show 2<1000;decide),?_⟩;rw[aZ,aZ];exact q
def iB(K:Frag)(mg:Str->Option Value):Sp:=fun vs H Q _=>∃(a C dx sg l:Addr)(fs:List (Str×V))(ss xs:List Str),vs=[.ref a,.ref l]/\H a=some (.ins C dx fs)/\xV K mg C/\fs.lookup ("signed":Str)=some (.ref sg)/\SqT K H sg (SV ss)/\SqL K H l (SV xs)/\(∀x∈ss,PyData.canLay0 (.str x)=true)/\(∀x∈xs,PyData.canLay0 (.str x)=true)/\Q (CK (fF ss xs)) H
variable(eU:DfT P w K mg base CX0 1 ck "wanting" ["self","names"] (iB K mg) [])
theorem iE:aA ["self","names","name"] ["self","names"] (ak eK):=by trivial
include B cZ in
theorem nF(T:TxM K ck "wanting" "Paper.wanting" eK ["self","names"] []):DfT P w K mg base CX0 1 ck "wanting" ["self","names"] (iB K mg) []:=by
 refine T.df iE (by rintro _ _ _ _ ⟨a,C,dx,sg,l,fs,ss,xs,rfl,ha,PC,hf,hs,hl,lss,lxs,q⟩;rfl) ?_;rintro f _ A _ s H _ Q E hr ⟨a,C,dx,sg,l,fs,ss,xs,rfl,ha,PC,hf,hs,hl,lss,lxs,q⟩;have hu:=hr.units;refine aO ?_;intro kX;refine ah 1 (aj (aC cL)) ?_;intro kR1 pR1;refine⟨_,(ai (cq GW rfl (dJ (pv 1)) (aM (i:=2) iE.nd rfl (by trivial)) (aj (aT (aD (nz hu) (pv 2) (c8 (pv 0) rfl) (by with_unfolding_all rfl)) (aj (aC (pv 2))) aG))) pR1),?_⟩;refine⟨_,rfl,l,rfl,⟨_,hl⟩,eJ (K:=K) (a:=l) (xs:=SV xs) (fun i σ H2=>∃o2:Option V,σ=[some (.ref a),some (.ref l),o2]/\H2=H/\fF ss xs=fF ss (xs.drop i)) ⟨none,rfl,rfl,rfl⟩ (fun i σ H2 _ hPz=>hPz.elim fun _ hPz=>(fun e=>by rw[e];exact hl) (hPz.2.1)) ?_ ?_⟩
 ·rintro i y σ H2 hi ⟨o2,rfl,rfl,e⟩;refine dw ?_;intro kD1;obtain⟨x,hx,rfl⟩:∃x,xs[i]?=some x/\y=.str x:=by
   rw[show SV xs=xs.map V.str from rfl,GX]at hi;cases e:xs[i]? with
   |none=>rw[e]at hi;cases hi
   |some x=>rw[e]at hi;cases hi;exact⟨x,rfl,rfl⟩
  rw[jZ hx,rC]at e;refine⟨_,rfl,_,rfl,a,C,dx,fs,_,rfl,ha,PC.cls,PC.sig,hf,.str x,ss.map PyData.str,.str _,.inr (.tup hs (nM ss)),lxs x (Gp hx),u5 lss,GP rfl,_,rfl,?_⟩;rw[vB];refine bf (fun h2=>?_) (fun h2=>?_)
  ·have h2':x∉ss:=(by simpa using h2);rw[Gu h2']at e;rw[e]at q;exact⟨_,rfl,q⟩
  ·have h2':x∈ss:=(by simpa using h2);rw[Gz h2']at e;exact⟨_,rfl,rfl,e⟩
 ·rintro σ H2 ⟨o2,rfl,rfl,e⟩;rw[show(SV xs).length=xs.length from Gh _,List.drop_length]at e;rw[e]at q;exact q
def nW(K:Frag):Sp:=fun vs H Q _=>∃(a:Addr)(n:Int)(c:Col),vs=[.ref a,.int n]/\bX K H a c/\(∀r∈c,eE r)/\∀H',ao H H'->(∀i,Fx n c i->Q (.int (i:Nat)) H')/\((∀r∈c,aN r≠n)->Q .non H')
variable(iZ:Df P w K mg base 1 "place_of" ["column","number"] (nW K))
theorem jz:aA ["column","number","place","burden"] ["column","number"] (ak (top 21)):=by trivial
include B in
theorem uM(T:Tx K mg "place_of" (top 21) ["column","number"]):Df P w K mg base 1 "place_of" ["column","number"] (nW K):=by
 refine T.df jz (by rintro _ _ _ _ ⟨a,n,c,rfl,hc,hb,q⟩;rfl) ?_;rintro f _ A _ s H _ Q E hr ⟨a,n,c,rfl,hc,hb,q⟩;refine aO ?_;intro kX;refine ah 1 (aj (aC cL)) ?_;intro kR1 pR1;refine⟨_,(ai (cq GW rfl (xj (by rfl) B.enumerate (aa (pv 0) ag)) (nq rfl (cV (aM (i:=2) jz.nd rfl (by trivial)) (cV (aM (i:=3) jz.nd rfl (by trivial)) jS))) (aj (aT (aD cj (aH aL (pv 3) ae (fun _ _=>rfl)) (pv 1) (aE _)) (aj (aC (pv 2))) aG))) pR1),?_⟩;obtain⟨xs,hx,pr⟩:=hc.bur;have lx:xs.length=c.length:=Gw pr;refine⟨_,rfl,a,rfl,⟨_,hx⟩,vj (K:=K) (a:=a) (xs:=xs) (fun i σ H2=>∃o2 o3:Option V,σ=[some (.ref a),some (.int n),o2,o3]/\ao H H2/\∀j r,j<i->c[j]?=some r->aN r≠n) ⟨none,none,rfl,ao.refl H,fun _ _ z=>absurd z (Nat.not_lt_zero _)⟩ (fun i σ H2 _ hPz=>hPz.elim fun _ hPz=>hPz.elim fun _ hPz=>(fun e=>e.tup hx) (hPz.2.1)) ?_ ?_⟩
 ·rintro i y σ H2 T hi ⟨o2,o3,rfl,s2,hn⟩ hT;obtain⟨r,hr,bur⟩:=aQ pr hi;obtain⟨lay,ab,rfl,ha⟩:=id bur;obtain⟨nn,k,x,m,u,er⟩:=hb r (Gp hr);have en:aN r=nn:=by rw[er];rfl
  rw[er]at ha;have tk:c.take (i+1)=c.take i++[r]:=by rw[GF,hr];rfl
  have i100:i<xs.length:=(GA.mp hi).1;have sT:=ao.upd (o:=.tup [.int (i:Nat),.ref ab]) hT;refine⟨T,_,rfl,SqT.of af,rfl,_,_,rfl,_,_,rfl,rfl,?_⟩;refine⟨_,rfl,ab,_,_,_,rfl,rfl,(s2.trans sT).tup ha,(au (j:=0) rfl),_,rfl,rfl,_,rfl,?_⟩;refine bf (fun h1=>?_) (fun h1=>?_)
  ·exact⟨_,rfl,(q _ (s2.trans sT)).1 i ⟨r,hr,by rw[en];exact veq.mp h1,hn⟩⟩
  ·refine⟨_,_,rfl,s2.trans sT,fun j r' hj hr'=>?_⟩;rcases Nat.lt_or_ge j i with z|z
   ·exact hn j r' z hr'
   ·have e:j=i:=(by lia);subst e;rw[hr]at hr';cases hr';rw[en];exact fun w=>h1 (veq.mpr w)
 ·rintro σ H2 ⟨o2,o3,rfl,s2,hn⟩;refine(q _ s2).2 fun r hr=>?_;obtain⟨j,hj,rfl⟩:=List.getElem_of_mem hr;exact hn j _ (by lia) (GB hj)
def jd(K:Frag):Sp:=fun vs H Q _=>∃(a:Addr)(tv:V)(tl:Option (List Int))(c:Col),vs=[.ref a,tv]/\bX K H a c/\(∀r∈c,eE r)/\yV K H tv tl/\∀H',ao H H'->Q (.int (bhO tl c:Nat)) H'
variable(fw:Df P w K mg base 1 "place_behind" ["column","told"] (jd K))
theorem du:aA ["column","told","found","place","burden"] ["column","told"] (ak (top 22)):=by trivial
include B in
theorem oR(T:Tx K mg "place_behind" (top 22) ["column","told"]):Df P w K mg base 1 "place_behind" ["column","told"] (jd K):=by
 refine T.df du (by rintro _ _ _ _ ⟨a,tv,tl,c,rfl,hc,hb,hT,q⟩;rfl) ?_;rintro f _ A _ s H _ Q E hr ⟨a,tv,tl,c,rfl,hc,hb,hT,q⟩;refine aO ?_;intro kX;refine ah 3 (aj (aC (pv 2))) ?_;intro kR3 pR3;refine ah 2 (ai (cq GW rfl (xj (by rfl) B.enumerate (aa (pv 0) ag)) (nq rfl (cV (aM (i:=3) du.nd rfl (by trivial)) (cV (aM (i:=4) du.nd rfl (by trivial)) jS))) (aj (aT (aD jU (aH aL (pv 4) ae (fun _ _=>rfl)) (pv 1) (by with_unfolding_all rfl)) (aj (aw (i:=2) du.nd rfl (by trivial) (aq bg (pv 3) ae))) aG))) pR3) ?_;intro kR2 pR2;refine ah 1 (ai (aw (i:=2) du.nd rfl (by trivial) ae) pR2) ?_;intro kR1 pR1;refine⟨_,(ai (aT (aD ig (pv 1) cL (aE _)) (aj (aC (aV bo (by rfl) B.len Hw (aa (pv 0) ag)))) aG) pR1),?_⟩;obtain⟨xs,hx,pr⟩:=hc.bur;have lx:xs.length=c.length:=Gw pr;cases tl with
 |none=>cases hT;refine⟨_,rfl,rfl,_,rfl,ip ?_⟩;refine⟨_,rfl,a,_,rfl,.inr hx,?_⟩;rw[lx];exact q H (ao.refl H)
 |some ts=>
  obtain⟨t,rfl,ht⟩:=hT;refine⟨_,rfl,rfl,_,rfl,eZ ?_⟩;refine⟨_,rfl,a,rfl,⟨_,hx⟩,vj (K:=K) (a:=a) (xs:=xs) (fun i σ H2=>∃(j:Nat)(o3 o4:Option V),σ=[some (.ref a),some (.ref t),some (.int (j:Nat)),o3,o4]/\ao H H2/\uv ts (c.take i) j) ⟨0,none,none,rfl,ao.refl H,Fi ts⟩ (fun i σ H2 _ hPz=>hPz.elim fun _ hPz=>hPz.elim fun _ hPz=>hPz.elim fun _ hPz=>(fun e=>e.tup hx) (hPz.2.1)) ?_ ?_⟩
  ·rintro i y σ H2 T hi ⟨j,o3,o4,rfl,s2,hj⟩ hT;obtain⟨r,hr,bur⟩:=aQ pr hi;obtain⟨lay,ab,rfl,ha⟩:=id bur;obtain⟨nn,k,x,m,u,er⟩:=hb r (Gp hr);have en:aN r=nn:=(by rw[er];rfl);rw[er]at ha;have tk:c.take (i+1)=c.take i++[r]:=(by rw[GF,hr];rfl);have i100:i<xs.length:=(GA.mp hi).1;have sT:=ao.upd (o:=.tup [.int (i:Nat),.ref ab]) hT;have sS:=s2.trans sT;have li:(c.take i).length=i:=(by rw[GR];lia);refine⟨T,_,rfl,SqT.of af,rfl,_,_,rfl,_,_,rfl,rfl,?_⟩;refine⟨_,rfl,ab,_,_,_,rfl,rfl,sS.tup ha,(au (j:=0) rfl),_,rfl,t,_,rfl,.inr (sS.tup ht),rfl,nO ts,_,rfl,?_⟩;show if inV (.int nn) (ts.map V.int)=true then _ else _
   rw[qr];refine bf (fun h1=>?_) (fun h1=>?_)
   ·have hin:aN r∈ts:=(by rw[en];exact GU h1);refine⟨_,rfl,_,_,rfl,rfl,i+1,_,_,rfl,sS,?_⟩;rw[tk];have:=Ca (c:=c.take i) hin;rw[li]at this;exact this
   ·have nin:¬aN r∈ts:=(by rw[en];exact fun z=>h1 (GN z));refine⟨j,_,_,rfl,sS,?_⟩;rw[tk];exact Aq hj nin
  ·rintro σ H2 ⟨j,o3,o4,rfl,s2,hj⟩;rw[lx,GL]at hj;rw[hj.uniq (pk ts c)];exact⟨_,rfl,q H2 s2⟩
def jr(K:Frag):Sp:=fun vs H Q _=>∃(a:Addr)(n:Int)(c:Col),vs=[.ref a,.int n]/\bX K H a c/\(∀r∈c,eE r)/\c.length<=100/\∀b H',ao H H'->bX K H' b (wo n c)->Q (.ref b) H'
variable(fO:Df P w K mg base 1 "lifted_from" ["column","number"] (jr K))
theorem pQ:aA ["column","number"] ["column","number"] (ak (top 26)):=by trivial
include B in
theorem p8(T:Tx K mg "lifted_from" (top 26) ["column","number"]):Df P w K mg base 1 "lifted_from" ["column","number"] (jr K):=by
 refine T.df pQ (by rintro _ _ _ _ ⟨a,n,c,rfl,hc,hb,hl,q⟩;rfl) ?_;rintro f _ A _ s H _ Q E hr ⟨a,n,c,rfl,hc,hb,hl,q⟩;refine⟨_,(aj (aC (bO bW (by rfl) B.tuple boot_tuple (aa (bR ["burden"] [("number",1)] (fC _ ["number"]) rfl (by rfl) rfl (by trivial) (by trivial) (aU (by rfl)) (cC (by rfl)) (mC ⟨rfl,rfl⟩ mN) (mC rfl mN) (bE (by decide)) (eF (pv 0)) (fun _ _ _ _=>aM (i:=0) (show(["burden","number"]:List Str).Nodup by trivial) rfl (Or.inl rfl) (Or.inr rfl)) (fun _ _ _ _=>iH (aD fW (aH (fN (K:=K) rfl) (pv 0) ae (fun _ _=>rfl)) (pv 1) (aE _))) (fun _ _ _ _=>(pv 0))) ag)))),?_⟩;obtain⟨xs,hx,pr⟩:=hc.bur;have lx:xs.length=c.length:=Gw pr;refine⟨_,rfl,a,rfl,⟨_,hx⟩,fun A1 hA1=>?_⟩;refine oH (K:=K) (a:=a) (xs:=xs) (fun i acc H2=>H2=upd H A1 (.lst acc)/\Paired (bM K H) acc (wo n (c.take i))) ⟨rfl,.nil⟩ (fun i acc H2 _ ⟨e,_⟩=>by rw[e];exact(ao.upd hA1).tup hx) ?_ ?_
 ·rintro i y acc H2 hi ⟨rfl,py⟩;refine dM ?_;intro kq1 kr1;obtain⟨r,hr,bur⟩:=aQ pr hi;obtain⟨lay,ab,rfl,ha⟩:=id bur;obtain⟨nn,k,x,m,u,er⟩:=hb r (Gp hr);have en:aN r=nn:=by rw[er];rfl
  rw[er]at ha;have tk:c.take (i+1)=c.take i++[r]:=by rw[GF,hr];rfl
  have i100:i<xs.length:=(GA.mp hi).1;have s1:=ao.upd (o:=.lst acc) hA1;refine⟨_,rfl,ab,_,_,_,rfl,rfl,s1.tup ha,(au (j:=0) rfl),_,rfl,rfl,_,rfl,?_⟩;refine bf (fun h1=>?_) (fun h1=>?_)
  ·have ne:¬aN r=n:=(by rw[en];exact vne.mp h1);refine⟨_,rfl,af,aF ?_,by rw[aZ],?_⟩
   ·rw[Gw py];have:=zh n (c.take i);rw[GR]at this
    lia
   ·rw[tk,oY,Gu ne];exact Paired.app py (.cons bur .nil)
  ·have e:aN r=n:=(by rw[en];exact G8 fun z=>h1 (vne.mpr z));refine⟨rfl,?_⟩;rw[tk,oY,Gz e,GY];exact py
 ·rintro acc H2 ⟨rfl,py⟩;rw[lx,GL]at py;refine⟨A1,_,rfl,.inl ⟨SqL.of af,fun p hp=>?_⟩⟩;have ss:=(ao.upd (o:=.lst acc) hA1).trans (ao.upd (o:=.tup acc) hp);exact q p _ ss (bX.of (SqT.of af) (Paired.imp (fun _ _ z=>bM.tk ss.tk z) py))
def rF(K:Frag):Sp:=fun vs H Q _=>∃(a:Addr)(S:Sh),vs=[.ref a]/\ShT K H a S/\S.length<=100/\∀l,H l=none->Q (.ref l) (upd H l (.lst ((S.map (·.1)).map V.str)))
variable(m3:Df P w K mg base 1 "owners" ["shares"] (rF K))
theorem yc:aA ["shares"] ["shares"] (ak (top 30)):=by trivial
include B in
theorem yn(T:Tx K mg "owners" (top 30) ["shares"]):Df P w K mg base 1 "owners" ["shares"] (rF K):=by
 refine T.df yc (by rintro _ _ _ _ ⟨a,S,rfl,hA,hz,q⟩;rfl) ?_;rintro f _ A _ s H _ Q E hr ⟨a,S,rfl,hA,hz,q⟩;refine⟨_,(aj (aC (bR ["pair"] [] (fC _ []) rfl (by rfl) rfl (by trivial) (by trivial) (aU (by rfl)) (cC (by rfl)) mN mN (bE (by decide)) (eF (pv 0)) (fun _ _ _ _=>aM (i:=0) (show(["pair"]:List Str).Nodup by trivial) rfl (Or.inl rfl) (Or.inr rfl)) (fun _ _ _ _=>bQ) (fun _ _ _ _=>(aH (fN (K:=K) rfl) (pv 0) ae (fun _ _=>rfl)))))),?_⟩;obtain⟨vs,ha,r⟩:=hA;have lk:vs.length=S.length:=Gw r;refine⟨_,rfl,a,rfl,⟨_,ha⟩,fun D hD=>?_⟩;have sD:∀o:HO,ao H (upd H D o):=fun o=>ao.upd hD;refine oH (K:=K) (a:=a) (xs:=vs) (fun i acc H2=>H2=upd H D (.lst acc)/\acc=((S.take i).map (·.1)).map V.str) ⟨rfl,rfl⟩ (fun i acc H2 _ ⟨e,_⟩=>by rw[e];exact(sD _).tup ha) ?_ ?_
 ·rintro i y acc H2 hi ⟨rfl,rfl⟩;refine dM ?_;intro kq1 kr1;obtain⟨p,hp,r1,q1,rfl,h1,h2⟩:=aQ r hi;refine⟨_,rfl,r1,_,_,_,rfl,rfl,(sD _).tup h1,(au (j:=0) rfl),af,?_,?_,?_⟩
  ·rw[Gh,Gh,GR];exact aF (by lia)
  ·rw[aZ]
  ·rw[GF,hp];simp
 ·rintro acc H2 ⟨rfl,rfl⟩;rw[lk,GL];exact q D hD
def gP(K:Frag)(mg:Str->Option Value):Sp:=fun vs H Q _=>∃(a C dx sg:Addr)(num since:Int)(L:dY)(tr:V),vs=[.ref a]/\H a=some (.ins C dx (mL num since sg L tr))/\rn K mg C/\∀l,H l=none->Q (.ref l) (upd H l (.tup ((layB num L).map kV)))
variable(cQ:DfT P w K mg base CX0 1 aP "laid_burden" ["self"] (gP K mg) [])
theorem kO:aA ["self"] ["self"] (ak dH):=by trivial
include B cf in
theorem lE(T:TxM K aP "laid_burden" "Lay.laid_burden" dH ["self"] []):DfT P w K mg base CX0 1 aP "laid_burden" ["self"] (gP K mg) []:=by refine T.df kO (by rintro _ _ _ _ ⟨a,C,dx,sg,num,since,L,tr,rfl,ha,D,q⟩;rfl) ?_;rintro f _ A _ s H _ Q E hr ⟨a,C,dx,sg,num,since,L,tr,rfl,ha,D,q⟩;refine⟨_,(aj (aC (aX (aa (c8 (pv 0) rfl) (aa (c8 (pv 0) rfl) (aa (c8 (pv 0) rfl) (aa (c8 (pv 0) rfl) (aa (c8 (pv 0) rfl) ag)))))))),?_⟩;refine⟨_,rfl,a,C,dx,_,_,rfl,ha,D.pap.cls,D.pap.num,rfl,_,rfl,a,C,dx,_,_,rfl,ha,D.pap.cls,D.kd,rfl,_,rfl,a,C,dx,_,_,rfl,ha,D.pap.cls,D.hd,rfl,_,rfl,a,C,dx,_,_,rfl,ha,D.pap.cls,D.am,rfl,_,rfl,a,C,dx,_,_,rfl,ha,D.pap.cls,D.un,rfl,aK rfl,fun t ht=>?_⟩;exact q t ht
def gj(K:Frag)(mg:Str->Option Value):Sp:=fun vs H Q _=>∃(a C dx sg:Addr)(num since:Int)(L:dY)(tr:V)(v:V)(p:Plt),vs=[.ref a,v]/\H a=some (.ins C dx (mL num since sg L tr))/\rn K mg C/\PlE K H v p/\Q (.int (dG p L:Nat)) H
variable(cN:DfT P w K mg base CX0 1 aP "cells_within" ["self","plot"] (gj K mg) [])
theorem kh:aA ["self","plot"] ["self","plot"] (ak c7):=by trivial
include B cf in
theorem kl(T:TxM K aP "cells_within" "Lay.cells_within" c7 ["self","plot"] []):DfT P w K mg base CX0 1 aP "cells_within" ["self","plot"] (gj K mg) []:=by
 refine T.df kh (by rintro _ _ _ _ ⟨a,C,dx,sg,num,since,L,tr,v,p,rfl,ha,D,hp,q⟩;rfl) ?_;rintro f _ A _ s H _ Q E hr ⟨a,C,dx,sg,num,since,L,tr,v,p,rfl,ha,D,hp,q⟩;refine aO ?_;intro kX;refine ah 1 (aj (aC (aH aL (pv 1) ae (fun _ _=>rfl)))) ?_;intro kR1 pR1;refine⟨_,(ai (aT (aD cj (c8 (pv 0) rfl) aR (aE _)) (aj (aC (c8 (pv 0) rfl))) aG) pR1),?_⟩;refine⟨_,rfl,a,C,dx,_,_,rfl,ha,D.pap.cls,D.kd,rfl,rfl,_,rfl,?_⟩;refine bf (fun h=>?_) (fun h=>?_)
 ·have e:L.kd=("way":Str):=V.str.inj (GU h);unfold dG at q;rw[Gz e]at q;exact⟨_,rfl,a,C,dx,_,_,rfl,ha,D.pap.cls,D.ov,rfl,q⟩
 ·have e:¬L.kd=("way":Str):=fun y=>h (GN (congrArg V.str y));unfold dG at q;rw[Gu e]at q;obtain⟨l,l1',lr,rfl,p1,p2,p3⟩:=hp;exact⟨_,rfl,l,_,_,_,rfl,rfl,p1,au (j:=0) rfl,q⟩
def jx(K:Frag):Sp:=fun vs H Q _=>∃(a:Addr)(ns:List Int)(k:Nat),vs=[.ref a,.int k]/\SqL K H a (ns.map V.int)/\Q (.int (ns.getD k 0)) H
variable(aJ:Df P w K mg base 1 "_law_cell_at" ["_law_script","_law_k"] (jx K))
theorem pU:aA ["_law_script","_law_k"] ["_law_script","_law_k"] (ak (top 35)):=by trivial
include B in
theorem qe(T:Tx K mg "_law_cell_at" (top 35) ["_law_script","_law_k"]):Df P w K mg base 1 "_law_cell_at" ["_law_script","_law_k"] (jx K):=by
 refine T.df pU (by rintro _ _ _ _ ⟨a,ns,k,rfl,hS,q⟩;rfl) ?_;rintro f _ A _ s H _ Q E hr ⟨a,ns,k,rfl,hS,q⟩;refine aO ?_;intro kX;refine ah 1 (aj (aC ae)) ?_;intro kR1 pR1;refine⟨_,(ai (aT (aD rS (pv 1) (aV bo (by rfl) B.len Hw (aa (pv 0) ag)) (aE _)) (aj (aC (aH bD (pv 0) (pv 1) (fun _ _=>rfl)))) aG) pR1),?_⟩;refine⟨_,rfl,_,rfl,a,_,rfl,.inl hS,_,_,rfl,rfl,_,rfl,?_⟩;refine bf (fun h1=>?_) (fun h1=>?_)
 ·have h1':k<ns.length:=by
   have:=GU h1;rw[Gh]at this
   lia
  refine⟨_,rfl,_,rfl,a,_,_,_,rfl,rfl,hS,au (show(ns.map V.int)[k]?=some (.int (ns.getD k 0)) by simp[h1',List.getD]),q⟩
 ·have h1':¬k<ns.length:=fun z=>h1 (by
   rw[Hj,Gh]
   lia)
  have e:ns.getD k 0=0:=by simp[List.getD,Nat.le_of_not_lt h1']
  rw[e]at q;exact q
def me(K:Frag):Sp:=fun vs H Q _=>∃(x:V)(n:String),vs=[x]/\g5 K H x (.type n)/\Q (.bl (isI x)) H
variable(cY:Df P w K mg base 1 "_law_whole" ["_law_found"] (me K))
theorem sQ:aA ["_law_found"] ["_law_found"] (ak (top 36)):=by trivial
include B in
theorem tL(T:Tx K mg "_law_whole" (top 36) ["_law_found"]):Df P w K mg base 1 "_law_whole" ["_law_found"] (me K):=by
 refine T.df sQ (by rintro _ _ _ _ ⟨x,n,rfl,ty,q⟩;rfl) ?_;rintro f _ A _ s H _ Q E hr ⟨x,n,rfl,ty,q⟩;refine⟨_,(aj (aC (nv (aV qD (by rfl) B.isinstance boot_isinstance (aa (pv 0) (aa (jT (x:="int") (v:=.ty "int") (by rfl) B.int boot_int rfl) ag))) (kT (DB (aV qD (by rfl) B.isinstance boot_isinstance (aa (pv 0) (aa (jT (x:="bool") (v:=.ty "bool") (by rfl) B.bool boot_bool rfl) ag)))))))),?_⟩;have k1:=B9 K ty;have k2:=Ak K ty;refine⟨_,rfl,_,_,_,_,rfl,ty,k1,_,rfl,?_⟩;refine bf (fun h1=>?_) (fun h1=>?_)
 ·refine⟨_,rfl,_,_,_,_,rfl,ty,k2,_,rfl,?_⟩;cases x<;>simp_all [isI,isB]
 ·cases x<;>simp_all [isI,isB]
def oh(K:Frag):Sp:=fun vs H Q _=>∃(c:Int),vs=[.int c]/\∀r:Nat,Q (.int r) H
variable(de:Df P w K mg base 1 "_law_bits" ["_law_cell"] (oh K))
theorem oy:aA ["_law_cell","_law_one"] ["_law_cell"] (ak (top 37)):=by trivial
include B in
theorem uU(T:Tx K mg "_law_bits" (top 37) ["_law_cell"]):Df P w K mg base 1 "_law_bits" ["_law_cell"] (oh K):=by
 refine T.df oy (by rintro _ _ _ _ ⟨c,rfl,q⟩;rfl) ?_;rintro f _ A _ s H _ Q E hr ⟨c,rfl,q⟩;refine aO ?_;intro kX;refine ah 1 (aj (aC (aq zT (pv 1) (aq cg (pv 1) ae)))) ?_;intro kR1 pR1;refine⟨_,(ai (aw (i:=1) oy.nd rfl (by trivial) (aq bp (aq cu (aq bp (pv 0) (aq iU ae ae)) ae) (aq iU ae ae))) pR1),?_⟩;refine⟨_,rfl,_,_,rfl,rfl,⟨by decide,by decide,by decide⟩,_,_,rfl,rfl,(by show(0:Int)<_;decide),_,_,rfl,rfl,.inl (Fe c),_,_,rfl,rfl,⟨by decide,by decide,by decide⟩,_,_,rfl,rfl,(by show(0:Int)<_;decide),?_⟩;have a0:=Hs (c % (2:Int)^(64:Int).toNat*5678901234567890123) (show(2:Int)^(64:Int).toNat≠0 by decide);obtain⟨a,ea⟩:∃a:Nat,c % (2:Int)^(64:Int).toNat*5678901234567890123 % (2:Int)^(64:Int).toNat=(a:Nat):=⟨_,(Int.toNat_of_nonneg a0).symm⟩;obtain⟨r,er⟩:=C6 a (a / 536870912);refine⟨_,rfl,_,rfl,_,_,rfl,rfl,⟨by decide,by decide⟩,_,_,rfl,rfl,?_⟩;have e:Builtin.bitXor (c % (2:Int)^(64:Int).toNat*5678901234567890123 % (2:Int)^(64:Int).toNat) (c % (2:Int)^(64:Int).toNat*5678901234567890123 % (2:Int)^(64:Int).toNat / 536870912)=(r:Nat):=by rw[ea];exact er
 show Q (.int (Builtin.bitXor (c % (2:Int)^(64:Int).toNat*5678901234567890123 % (2:Int)^(64:Int).toNat) (c % (2:Int)^(64:Int).toNat*5678901234567890123 % (2:Int)^(64:Int).toNat / 536870912))) H;rw[e];exact q r
def mf(K:Frag):Sp:=fun vs H Q _=>∃(r:Int)(w h:Nat),vs=[.int r,.int w,.int h]/\(0<w/\w<=8/\0<h/\h<=8)/\∀(v:Int) H',ao H H'->Q (.int v) H'
variable(hX:Df P w K mg base 1 "_law_shape" ["_law_rest","_law_wide","_law_high"] (mf K))
theorem cz:aA ["_law_rest","_law_wide","_law_high","_law_found","_law_k","_law_x","_law_y","_law_held"] ["_law_rest","_law_wide","_law_high"] (ak (top 38)):=by trivial
include B in
theorem tM(T:Tx K mg "_law_shape" (top 38) ["_law_rest","_law_wide","_law_high"]):Df P w K mg base 1 "_law_shape" ["_law_rest","_law_wide","_law_high"] (mf K):=by
 refine T.df cz (by rintro _ _ _ _ ⟨r,w,h,rfl,⟨hw,hw8,hh,hh8⟩,q⟩;rfl) ?_;rintro f _ A _ s H _ Q E hr ⟨r,w,h,rfl,⟨hw,hw8,hh,hh8⟩,q⟩;refine aO ?_;intro kX;refine ah 2 (aj (aC (pv 3))) ?_;intro kR2 pR2;refine bS 1 3 (aj (aT (aD fW (pv 7) (cB cj (pv 4) (aq bp (aq cg (pv 0) ae) (aq cu (pv 1) (pv 2))) (aE _)) (aE _)) (aj (aw (i:=3) cz.nd rfl (by trivial) (aq bg (pv 3) (aq f7 ae (pv 4))))) aG)) ?_;intro kS1x3 pS1x3;refine bS 1 2 (aY (aT (aD cj (aq bp (pv 0) ae) ae (aE _)) (aj (aw (i:=7) cz.nd rfl (by trivial) (CQ (cB cj (aq bp (pv 6) ae) ae (aE _)) (kT (cB cj (pv 5) (aH bD (cA (aa (aq eY (pv 1) ae) (aa ae ag))) (aq bp (aq cg (pv 6) ae) ae) (fun _ _=>rfl)) (aE _)))))) (aj (aT (aD cj (aq bp (pv 0) ae) ae (aE _)) (aj (aw (i:=7) cz.nd rfl (by trivial) (CQ (cB jU (pv 5) (aX (aa ae (aa (aq eY (pv 1) ae) ag))) (by with_unfolding_all rfl)) (kT (cB jU (pv 6) (aX (aa ae (aa (aq eY (pv 2) ae) ag))) (by with_unfolding_all rfl)))))) (aj (aw (i:=7) cz.nd rfl (by trivial) (cB cj (aq bp (aq bg (pv 5) (pv 6)) ae) (aq bp (aq cg (pv 0) ae) ae) (aE _))))))) pS1x3) ?_;intro kS1x2 pS1x2;refine bS 1 1 (ai (aw (i:=6) cz.nd rfl (by trivial) (aq cg (pv 4) (pv 1))) pS1x2) ?_;intro kS1x1 pS1x1;refine bS 1 0 (ai (aw (i:=5) cz.nd rfl (by trivial) (aq bp (pv 4) (pv 1))) pS1x1) ?_;intro kS1x0 pS1x0;refine ah 1 (ai (cq GW rfl (bN (by rfl) B.range (aa (aq cu (pv 1) (pv 2)) ag)) (aM (i:=4) cz.nd rfl (by trivial)) pS1x0) pR2) ?_;intro kR1 pR1;refine⟨_,(ai (aw (i:=3) cz.nd rfl (by trivial) ae) pR1),?_⟩;have hwh:w*h<=64:=Nat.mul_le_mul hw8 hh8;have hwp:0<w*h:=Nat.mul_pos hw hh;have e1:((w:Int)*(h:Int))=((w*h:Nat):Int):=by simp
 refine⟨_,rfl,_,rfl,_,_,rfl,rfl,.inl ⟨by lia,by lia⟩,_,rfl,by lia,by lia,?_⟩;refine gE (lo:=0) (fun i σ H2=>∃v o4 o5 o6 o7,σ=[some (.int r),some (.int w),some (.int h),some (.int v),o4,o5,o6,o7]/\ao H H2) ⟨0,none,none,none,none,rfl,ao.refl _⟩ ?_ ?_
 ·rintro i σ H2 hi ⟨v,o4,o5,o6,o7,rfl,s2⟩;refine dw ?_;intro kD1;have hi':i<64:=by
   rw[e1,Hg]at hi
   lia
  have y2:=Int.emod_two_eq (((0+(i:Int)) / (w:Int)) / 2);refine⟨_,rfl,_,rfl,_,_,rfl,rfl,(by lia),_,rfl,_,rfl,_,_,rfl,rfl,⟨by omega,by lia⟩,?_⟩;refine⟨fun σ' H'=>∃b,σ'=[some (.int r),some (.int w),some (.int h),some (.int v),some (.int (0+(i:Int))),some (.int ((0+(i:Int)) % (w:Int))),some (.int ((0+(i:Int)) / (w:Int))),some (.bl b)]/\ao H H',?_,?_⟩
  ·refine eI ?_;intro kD2;refine⟨_,rfl,_,_,rfl,rfl,(by show(0:Int)<_;decide),rfl,_,rfl,?_⟩;refine bf (fun h1=>?_) (fun h1=>?_)
   ·refine⟨_,rfl,_,_,rfl,rfl,(by show(0:Int)<_;decide),rfl,_,rfl,?_⟩;refine bf (fun h2=>?_) (fun h2=>?_)
    ·exact⟨_,rfl,s2⟩
    ·refine⟨_,rfl,_,rfl,_,_,rfl,rfl,aK rfl,fun l hl=>?_⟩;have s3:=s2.trans (ao.upd (o:=.lst [.int ((w:Int)-1),.int 0]) hl);obtain⟨v3,y3⟩:∃v3:Int,atI [V.int ((w:Int)-1),.int 0] ((((0+(i:Int)) / (w:Int)) / 2) % 2)=some (.int v3):=by
      rcases y2 with y2|y2
      ·rw[y2];exact⟨_,rfl⟩
      ·rw[y2];exact⟨_,rfl⟩
     refine⟨_,rfl,_,_,rfl,rfl,⟨by decide,by decide⟩,_,_,rfl,rfl,(by show(0:Int)<_;decide),l,_,_,_,rfl,rfl,SqL.of af,y3,rfl,?_⟩;exact⟨_,rfl,s3⟩
   ·refine⟨_,rfl,_,_,rfl,rfl,(by show(0:Int)<_;decide),rfl,_,rfl,?_⟩;refine bf (fun h2=>?_) (fun h2=>?_)
    ·refine⟨_,rfl,_,rfl,_,_,rfl,rfl,aK rfl,fun t ht=>?_⟩;have s3:=s2.trans (ao.upd (o:=.tup [.int 0,.int ((w:Int)-1)]) ht);refine⟨t,_,rfl,.inr (SqT.of af),rfl,rfl,_,rfl,?_⟩;refine bf (fun h3=>?_) (fun h3=>?_)
     ·exact⟨_,rfl,s3⟩
     ·refine⟨_,rfl,_,rfl,_,_,rfl,rfl,aK rfl,fun t2 ht2=>?_⟩;have s4:=s3.trans (ao.upd (o:=.tup [.int 0,.int ((h:Int)-1)]) ht2);refine⟨t2,_,rfl,.inr (SqT.of af),rfl,rfl,?_⟩;exact⟨_,rfl,s4⟩
    ·refine⟨_,rfl,_,rfl,_,_,rfl,rfl,_,_,rfl,rfl,(by show(0:Int)<_;decide),_,rfl,_,_,rfl,rfl,⟨by decide,by decide⟩,_,_,rfl,rfl,(by show(0:Int)<_;decide),rfl,?_⟩;exact⟨_,rfl,s2⟩
  ·rintro σ' H' ⟨b,rfl,s5⟩;refine⟨_,rfl,_,rfl,_,rfl,_,_,rfl,rfl,⟨by decide,by decide⟩,_,rfl,_,rfl,_,_,rfl,rfl,.inl ⟨by omega,by omega⟩,_,_,rfl,rfl,(by rw[e1];lia),rfl,rfl,_,rfl,?_⟩;refine bf (fun h9=>?_) (fun h9=>?_)
   ·refine⟨_,rfl,_,rfl,_,_,rfl,rfl,⟨by lia,by lia,by decide⟩,_,_,rfl,rfl,?_⟩;exact⟨_,_,_,_,_,rfl,s5⟩
   ·exact⟨_,_,_,_,_,rfl,s5⟩
 ·rintro σ H2 ⟨v,o4,o5,o6,o7,rfl,s2⟩;exact⟨_,rfl,q _ _ s2⟩
def pL(K:Frag):Sp:=fun vs H Q _=>∃(c k:Nat),vs=[.int c,.int k]/\k<=64/\Q (.bl (c.testBit k)) H
variable(aS:Df P w K mg base 1 "_law_has" ["_law_ground","_law_cell"] (pL K))
theorem vO:aA ["_law_ground","_law_cell"] ["_law_ground","_law_cell"] (ak (top 40)):=by trivial
include B in
theorem v8(T:Tx K mg "_law_has" (top 40) ["_law_ground","_law_cell"]):Df P w K mg base 1 "_law_has" ["_law_ground","_law_cell"] (pL K):=by refine T.df vO (by rintro _ _ _ _ ⟨c,k,rfl,hk,q⟩;rfl) ?_;rintro f _ A _ s H _ Q E hr ⟨c,k,rfl,hk,q⟩;refine⟨_,(aj (aC (cB cj (aq bp (aq p6 (pv 0) (aq f7 ae (pv 1))) ae) ae (aE _)))),?_⟩;refine⟨_,rfl,_,rfl,_,_,rfl,rfl,⟨by lia,by lia,by decide⟩,_,_,rfl,rfl,⟨uJ _,BG k hk⟩,_,_,rfl,rfl,(by show(0:Int)<_;decide),rfl,?_⟩;rw[B8 c k];exact q
def kq(K:Frag):Sp:=fun vs H Q _=>∃(w h k:Int),vs=[.int w,.int h,.int k]/\(0<w/\w<1073741824)/\∀l,H l=none->Q (.ref l) (upd H l (.lst ((Aa w h k).map V.int)))
variable(gx:Df P w K mg base 1 "_law_nearby" ["_law_wide","_law_high","_law_cell"] (kq K))
theorem kC:aA ["_law_wide","_law_high","_law_cell","_law_found"] ["_law_wide","_law_high","_law_cell"] (ak (top 41)):=by trivial
include B in
theorem qV(T:Tx K mg "_law_nearby" (top 41) ["_law_wide","_law_high","_law_cell"]):Df P w K mg base 1 "_law_nearby" ["_law_wide","_law_high","_law_cell"] (kq K):=by
 refine T.df kC (by rintro _ _ _ _ ⟨w,h,k,rfl,hw,q⟩;rfl) ?_;rintro f _ A _ s H _ Q E hr ⟨w,h,k,rfl,hw,q⟩;refine aO ?_;intro kX;refine ah 5 (aj (aC (pv 3))) ?_;intro kR5 pR5;refine ah 4 (aY (aT (aD rS (aq cg (pv 2) (pv 0)) (aq eY (pv 1) ae) (aE _)) (aj (cO (jh G4 He Hd cH (pv 3) (aa (aq bg (pv 2) (pv 0)) ag)))) aG) pR5) ?_;intro kR4 pR4;refine ah 3 (aY (aT (aD rS (aq bp (pv 2) (pv 0)) (aq eY (pv 0) ae) (aE _)) (aj (cO (jh G4 He Hd cH (pv 3) (aa (aq bg (pv 2) ae) ag)))) aG) pR4) ?_;intro kR3 pR3;refine ah 2 (aY (aT (aD jH (aq bp (pv 2) (pv 0)) ae (aE _)) (aj (cO (jh G4 He Hd cH (pv 3) (aa (aq eY (pv 2) ae) ag)))) aG) pR3) ?_;intro kR2 pR2;refine ah 1 (aY (aT (aD jH (aq cg (pv 2) (pv 0)) ae (aE _)) (aj (cO (jh G4 He Hd cH (pv 3) (aa (aq eY (pv 2) (pv 0)) ag)))) aG) pR2) ?_;intro kR1 pR1;refine⟨_,(ai (aw (i:=3) kC.nd rfl (by trivial) (cA ag)) pR1),?_⟩;refine⟨G1 _,fun l hl=>?_⟩;have q':=q l hl;refine⟨fun σ' H'=>σ'=[some (.int w),some (.int h),some (.int k),some (.ref l)]/\H'=upd H l (.lst ((([]:List Int)++if decide (0<k / w)=true then[k-w]else[]).map V.int)),?_,?_⟩
 ·refine eI ?_;intro kD1;refine⟨_,rfl,_,rfl,_,_,rfl,rfl,hw,_,_,rfl,rfl,_,rfl,?_⟩;refine bf (fun h1=>?_) (fun h1=>?_)
  ·refine⟨_,rfl,.inl ⟨rfl,_,SqL.of af⟩,_,rfl,_,rfl,_,_,rfl,rfl,l,_,_,rfl,rfl,af,?_,?_⟩
   ·exact aF (by simp only[Gh,Gn,List.length_nil];(repeat' split)<;>simp)
   ·have e:(([]:List Int)++if decide (0<k / w)=true then[k-w]else[])=([]:List Int)++[k-w]:=(by rw[Gz h1]);refine⟨rfl,?_⟩;rw[aZ,e];simp only[GK,GC,List.map_nil,List.nil_append]
  ·have e:(([]:List Int)++if decide (0<k / w)=true then[k-w]else[])=([]:List Int):=(by rw[Gu h1,GY]);refine⟨rfl,?_⟩;rw[e]<;>rfl
 rintro σ' H' ⟨rfl,rfl⟩;refine⟨fun σ' H'=>σ'=[some (.int w),some (.int h),some (.int k),some (.ref l)]/\H'=upd H l (.lst (((([]:List Int)++if decide (0<k / w)=true then[k-w]else[])++if decide (0<k % w)=true then[k-1]else[]).map V.int)),?_,?_⟩
 ·refine eI ?_;intro kD2;refine⟨_,rfl,_,rfl,_,_,rfl,rfl,hw.1,_,_,rfl,rfl,_,rfl,?_⟩;refine bf (fun h1=>?_) (fun h1=>?_)
  ·refine⟨_,rfl,.inl ⟨rfl,_,SqL.of af⟩,_,rfl,_,_,rfl,rfl,l,_,_,rfl,rfl,af,?_,?_⟩
   ·exact aF (by simp only[Gh,Gn,List.length_nil];(repeat' split)<;>simp)
   ·have e:((([]:List Int)++if decide (0<k / w)=true then[k-w]else[])++if decide (0<k % w)=true then[k-1]else[])=(([]:List Int)++if decide (0<k / w)=true then[k-w]else[])++[k-1]:=(by rw[Gz h1]);refine⟨rfl,?_⟩;rw[aZ,e];simp only[GK,GC,List.map_nil,List.nil_append]
  ·have e:((([]:List Int)++if decide (0<k / w)=true then[k-w]else[])++if decide (0<k % w)=true then[k-1]else[])=(([]:List Int)++if decide (0<k / w)=true then[k-w]else[]):=(by rw[Gu h1,GY]);refine⟨rfl,?_⟩;rw[e]<;>rfl
 rintro σ' H' ⟨rfl,rfl⟩;refine⟨fun σ' H'=>σ'=[some (.int w),some (.int h),some (.int k),some (.ref l)]/\H'=upd H l (.lst ((((([]:List Int)++if decide (0<k / w)=true then[k-w]else[])++if decide (0<k % w)=true then[k-1]else[])++if decide (k % w<w-1)=true then[k+1]else[]).map V.int)),?_,?_⟩
 ·refine eI ?_;intro kD3;refine⟨_,rfl,_,rfl,_,_,rfl,rfl,hw.1,_,rfl,_,_,rfl,rfl,_,_,rfl,rfl,_,rfl,?_⟩;refine bf (fun h1=>?_) (fun h1=>?_)
  ·refine⟨_,rfl,.inl ⟨rfl,_,SqL.of af⟩,_,rfl,_,_,rfl,rfl,l,_,_,rfl,rfl,af,?_,?_⟩
   ·exact aF (by simp only[Gh,Gn,List.length_nil];(repeat' split)<;>simp)
   ·have e:(((([]:List Int)++if decide (0<k / w)=true then[k-w]else[])++if decide (0<k % w)=true then[k-1]else[])++if decide (k % w<w-1)=true then[k+1]else[])=((([]:List Int)++if decide (0<k / w)=true then[k-w]else[])++if decide (0<k % w)=true then[k-1]else[])++[k+1]:=(by rw[Gz h1]);refine⟨rfl,?_⟩;rw[aZ,e];simp only[GK,GC,List.map_nil,List.nil_append]
  ·have e:(((([]:List Int)++if decide (0<k / w)=true then[k-w]else[])++if decide (0<k % w)=true then[k-1]else[])++if decide (k % w<w-1)=true then[k+1]else[])=((([]:List Int)++if decide (0<k / w)=true then[k-w]else[])++if decide (0<k % w)=true then[k-1]else[]):=(by rw[Gu h1,GY]);refine⟨rfl,?_⟩;rw[e]<;>rfl
 rintro σ' H' ⟨rfl,rfl⟩;refine⟨fun σ' H'=>σ'=[some (.int w),some (.int h),some (.int k),some (.ref l)]/\H'=upd H l (.lst (((((([]:List Int)++if decide (0<k / w)=true then[k-w]else[])++if decide (0<k % w)=true then[k-1]else[])++if decide (k % w<w-1)=true then[k+1]else[])++if decide (k / w<h-1)=true then[k+w]else[]).map V.int)),?_,?_⟩
 ·refine eI ?_;intro kD4;refine⟨_,rfl,_,rfl,_,_,rfl,rfl,hw,_,rfl,_,_,rfl,rfl,_,_,rfl,rfl,_,rfl,?_⟩;refine bf (fun h1=>?_) (fun h1=>?_)
  ·refine⟨_,rfl,.inl ⟨rfl,_,SqL.of af⟩,_,rfl,_,rfl,_,_,rfl,rfl,l,_,_,rfl,rfl,af,?_,?_⟩
   ·exact aF (by simp only[Gh,Gn,List.length_nil];(repeat' split)<;>simp)
   ·have e:((((([]:List Int)++if decide (0<k / w)=true then[k-w]else[])++if decide (0<k % w)=true then[k-1]else[])++if decide (k % w<w-1)=true then[k+1]else[])++if decide (k / w<h-1)=true then[k+w]else[])=(((([]:List Int)++if decide (0<k / w)=true then[k-w]else[])++if decide (0<k % w)=true then[k-1]else[])++if decide (k % w<w-1)=true then[k+1]else[])++[k+w]:=(by rw[Gz h1]);refine⟨rfl,?_⟩;rw[aZ,e];simp only[GK,GC,List.map_nil,List.nil_append]
  ·have e:((((([]:List Int)++if decide (0<k / w)=true then[k-w]else[])++if decide (0<k % w)=true then[k-1]else[])++if decide (k % w<w-1)=true then[k+1]else[])++if decide (k / w<h-1)=true then[k+w]else[])=(((([]:List Int)++if decide (0<k / w)=true then[k-w]else[])++if decide (0<k % w)=true then[k-1]else[])++if decide (k % w<w-1)=true then[k+1]else[]):=(by rw[Gu h1,GY]);refine⟨rfl,?_⟩;rw[e]<;>rfl
 rintro σ' H' ⟨rfl,rfl⟩;refine⟨_,rfl,?_⟩;simp only[List.nil_append,HG];exact q'
def nX(K:Frag):Sp:=fun vs H Q _=>∃(z:Int)(c n:Nat),vs=[.int z,.int c,.int n]/\0<n/\c<=1000/\∀k:Nat,k<n->Q (.int k) H
variable(az:Df P w K mg base 1 "_law_pick" ["_law_cell","_law_salt","_law_many"] (nX K))
theorem oo:aA ["_law_cell","_law_salt","_law_many","_law_one"] ["_law_cell","_law_salt","_law_many"] (ak (top 44)):=by trivial
include B in
theorem uN(T:Tx K mg "_law_pick" (top 44) ["_law_cell","_law_salt","_law_many"]):Df P w K mg base 1 "_law_pick" ["_law_cell","_law_salt","_law_many"] (nX K):=by
 refine T.df oo (by rintro _ _ _ _ ⟨z,c,n,rfl,hn,hc,q⟩;rfl) ?_;rintro f _ A _ s H _ Q E hr ⟨z,c,n,rfl,hn,hc,q⟩;refine aO ?_;intro kX;refine ah 1 (aj (aC (aq bp (aq bp (aq cu (pv 3) (aq bg (pv 3) (pv 1))) ae) (pv 2)))) ?_;intro kR1 pR1;refine⟨_,(ai (aw (i:=3) oo.nd rfl (by trivial) (aq bp (aq bg (aq cu (aq bp (pv 0) ae) (aq bg ae (aq cu ae (pv 1)))) (aq cu ae (pv 1))) ae)) pR1),?_⟩;have a0:=Hs z (show(1000000007:Int)≠0 by decide);have a1:=Hz z (show(0:Int)<1000000007 by decide);refine⟨_,rfl,_,_,rfl,rfl,(by show(0:Int)<_;decide),_,rfl,_,_,rfl,rfl,.inl ⟨by decide,by decide⟩,_,_,rfl,rfl,_,_,rfl,rfl,.inl ⟨by lia,by lia⟩,_,rfl,_,_,rfl,rfl,.inl ⟨by decide,by decide⟩,_,_,rfl,rfl,_,_,rfl,rfl,(by show(0:Int)<_;decide),?_⟩;have b0:=Hs (z % 1000000007*(48271+2*(c:Int))+7919*(c:Int)) (show(1000003:Int)≠0 by decide);have b1:=Hz (z % 1000000007*(48271+2*(c:Int))+7919*(c:Int)) (show(0:Int)<1000003 by decide);refine⟨_,rfl,_,rfl,_,rfl,_,_,rfl,rfl,_,_,rfl,rfl,.inl ⟨by lia,by lia⟩,_,_,rfl,rfl,(by show(0:Int)<_;decide),_,rfl,_,_,rfl,rfl,by omega,?_⟩;generalize (z % 1000000007*(48271+2*(c:Int))+7919*(c:Int)) % 1000003*((z % 1000000007*(48271+2*(c:Int))+7919*(c:Int)) % 1000003+(c:Int)) % 999983=y;have d0:=Hs y (show(n:Int)≠0 by lia);have d1:=Hz y (show(0:Int)<(n:Int) by omega);have e:y % (n:Int)=((y % (n:Int)).toNat:Int):=by lia
 show Q (.int (y % (n:Int))) H;rw[e];exact q _ (by lia)
def nY(K:Frag):Sp:=fun vs H Q _=>∃(k:Nat)(w:Int),vs=[.int k,.int w]/\k<6/\Q (.str (g9 w k)) H
variable(bV:Df P w K mg base 1 "_law_name" ["_law_k","_law_way"] (nY K))
theorem oq:aA ["_law_k","_law_way","_law_at_here"] ["_law_k","_law_way"] (ak (top 45)):=by trivial
include B in
theorem uO(T:Tx K mg "_law_name" (top 45) ["_law_k","_law_way"]):Df P w K mg base 1 "_law_name" ["_law_k","_law_way"] (nY K):=by
 refine T.df oq (by rintro _ _ _ _ ⟨k,w,rfl,hk,q⟩;rfl) ?_;rintro f _ A _ s H _ Q E hr ⟨k,w,rfl,hk,q⟩;refine aO ?_;intro kX;refine ah 2 (aj (aC (aq p7 (aq p7 (gT zx aR iT (iS (pv 2))) (aH D2 aR (pv 0) (fun _ _=>rfl))) (gT zx aR (iS (aq bg (pv 2) ae)) iT)))) ?_;intro kR2 pR2;refine ah 1 (ai (aw (i:=2) oq.nd rfl (by trivial) (aq bp (aq cg (pv 1) ae) ae)) pR2) ?_;intro kR1 pR1;refine⟨_,(ai (aT (aD cj (aq bp (pv 1) ae) ae (aE _)) (aj (aC (aq BP aR (aq bg (pv 0) ae)))) aG) pR1),?_⟩;have a0:=Hs (w / 2) (show(5:Int)≠0 by decide);have a1:=Hz (w / 2) (show(0:Int)<5 by decide);unfold g9 nmO at q;refine⟨_,rfl,_,_,rfl,rfl,(by show(0:Int)<_;decide),rfl,_,rfl,?_⟩;refine bf (fun h1=>?_) (fun h1=>?_)
 ·have e:w % 2=0:=V.int.inj (GU h1);rw[Gz e]at q;refine⟨_,rfl,_,_,rfl,rfl,_,_,rfl,rfl,by lia,by lia,by decide,?_⟩;exact q
 ·have e:¬w % 2=0:=fun z=>h1 (GN (by show V.int (w % 2)=V.int 0;rw[z]));rw[Gu e]at q;refine⟨_,rfl,_,_,rfl,rfl,⟨by decide,by decide⟩,_,_,rfl,rfl,(by show(0:Int)<_;decide),?_⟩;have at_:atI (Str.ofString "pqrstu").cps.toList ((k:Nat):Int)=some (112+k):=by
   rcases (show k=0\/k=1\/k=2\/k=3\/k=4\/k=5 by lia)with z|z|z|z|z|z<;>subst z<;>decide+kernel
  have l5:(Str.ofString "landa").length<=sizeLine:=by decide+kernel
  have sl:∀lo hi,(Txt.slice (Str.ofString "landa") lo hi).length<=5:=fun lo hi=>by
   have:=Txt.slice_le (Str.ofString "landa") lo hi;have e5:(Str.ofString "landa").length=5:=by decide+kernel
   lia
  have z7:sizeLine>=1000:=by decide
  have c1:(⟨#[112+k]⟩:Str).length=1:=rfl;have s1:=sl none (some (w / 2 % 5));have s2:=sl (some (w / 2 % 5+1)) none;refine⟨_,rfl,_,rfl,_,rfl,l5,_,rfl,_,_,_,rfl,rfl,by decide+kernel,at_,_,_,rfl,rfl,by rw[c1];lia,?_⟩;refine⟨_,rfl,_,_,rfl,rfl,_,rfl,_,rfl,l5,_,_,rfl,rfl,?_,q⟩;rw[CA,c1]
  lia
def pK(K:Frag):Sp:=fun vs H Q _=>∃(t b:Int),vs=[.int t,.int b]/\0<b/\0<t/\Bd 8000 b/\∀l,H l=none->Q (.ref l) (upd H l (.tup [.int (frT t b),.int (frB t b)]))
variable(j8:Df P w K mg base 1 "_law_low" ["_law_top","_law_bottom"] (pK K))
theorem fJ:aA ["_law_top","_law_bottom","_law_one","_law_other","_law_rest"] ["_law_top","_law_bottom"] (ak (top 46)):=by trivial
include B in
theorem v7(T:Tx K mg "_law_low" (top 46) ["_law_top","_law_bottom"]):Df P w K mg base 1 "_law_low" ["_law_top","_law_bottom"] (pK K):=by
 refine T.df fJ (by rintro _ _ _ _ ⟨t,b,rfl,hb,ht,bd,q⟩;rfl) ?_;rintro f _ A _ s H _ Q E hr ⟨t,b,rfl,hb,ht,bd,q⟩;refine aO ?_;intro kX;refine ah 3 (aj (aC (aX (aa (aq p6 (pv 0) (pv 2)) (aa (aq p6 (pv 1) (pv 2)) ag))))) ?_;intro kR3 pR3;refine bS 2 2 (aj (aw (i:=3) fJ.nd rfl (by trivial) (pv 4))) ?_;intro kS2x2 pS2x2;refine bS 2 1 (ai (aw (i:=2) fJ.nd rfl (by trivial) (pv 3)) pS2x2) ?_;intro kS2x1 pS2x1;refine bS 2 0 (ai (aw (i:=4) fJ.nd rfl (by trivial) (aq BQ (pv 2) (pv 3))) pS2x1) ?_;intro kS2x0 pS2x0;refine ah 2 (ai (uI GW (aD fW (pv 3) ae (aE _)) pS2x0) pR3) ?_;intro kR2 pR2;refine ah 1 (ai (aw (i:=3) fJ.nd rfl (by trivial) (pv 1)) pR2) ?_;intro kR1 pR1;refine⟨_,(ai (aw (i:=2) fJ.nd rfl (by trivial) (pv 0)) pR1),?_⟩;have g:=jM (t:=t) hb;have lg:((Int.gcd t b:Nat):Int).natAbs.log2<9000:=(Bd.gcd (t:=t) bd (by lia)).log2 (by decide);refine⟨_,rfl,_,rfl,?_⟩;refine⟨fun m σ H2=>∃(f r:Int)(o:Option V),σ=[some (.int t),some (.int b),some (.int f),some (.int r),o]/\H2=H/\Int.gcd f r=Int.gcd t b/\0<=f/\0<=r/\m=r.natAbs,⟨_,_,_,_,rfl,rfl,rfl,by omega,by lia,rfl⟩,?_⟩;rintro m σ H2 ⟨f,r,o,rfl,rfl,hg,hf,hr,rfl⟩;refine⟨_,rfl,rfl,_,rfl,?_⟩;refine bf (fun h1=>?_) (fun h1=>?_)
 ·have h1':r≠0:=by
   intro z;rw[z]at h1
   revert h1
   decide
  refine⟨fun σ' H'=>∃o',σ'=[some (.int t),some (.int b),some (.int r),some (.int (f.fmod r)),o']/\H'=H2,?_,?_⟩
  ·rintro σ' H' ⟨o',rfl,rfl⟩;exact⟨_,Az f h1',r,f.fmod r,_,rfl,rfl,(Aw f r).trans hg,hr,Int.fmod_nonneg_of_pos f (by lia),rfl⟩
  ·exact⟨_,rfl,_,rfl,_,_,rfl,rfl,h1',_,rfl,_,rfl,_,rfl,rfl⟩
 ·have h1':r=0:=G8 fun z=>h1 (by simp[z]);subst h1';have ef:f=(Int.gcd t b:Int):=by rw[<-hg];simp;lia
  subst ef;refine⟨_,rfl,_,rfl,_,_,rfl,rfl,⟨g,lg⟩,_,rfl,_,rfl,_,_,rfl,rfl,⟨g,lg⟩,aK rfl,fun l hl=>?_⟩;exact q l hl
def gK(K:Frag):Sp:=fun vs H Q _=>∃(k c:Int),vs=[.int k,.int c]/\(0<=k/\k<=100)/\∀H',ao H H'->Q (.int (qg k c)) H'
variable(bI:Df P w K mg base 1 "_law_make_number" ["_law_k","_law_cell"] (gK K))
theorem kN:aA ["_law_k","_law_cell"] ["_law_k","_law_cell"] (ak (top 48)):=by trivial
include B in
theorem k8(T:Tx K mg "_law_make_number" (top 48) ["_law_k","_law_cell"]):Df P w K mg base 1 "_law_make_number" ["_law_k","_law_cell"] (gK K):=by
 refine T.df kN (by rintro _ _ _ _ ⟨k,c,rfl,⟨k0,k1⟩,q⟩;rfl) ?_;rintro f _ A _ s H _ Q E hr ⟨k,c,rfl,⟨k0,k1⟩,q⟩;refine⟨_,(aj (aC (aq bg ae (aq cu (aq bp (aq bg (aq cu (pv 0) ae) (pv 1)) ae) (aH bD (cA (aa ae (aa ae ag))) (aq bp (aq cg (pv 1) ae) ae) (fun _ _=>rfl)))))),?_⟩;have a0:=Hs (k*7919+c) (show(9973:Int)≠0 by decide);have a1:=Hz (k*7919+c) (show(0:Int)<9973 by decide);refine⟨_,rfl,_,_,rfl,rfl,.inl ⟨by lia,by lia⟩,_,rfl,_,_,rfl,rfl,_,_,rfl,rfl,(by show(0:Int)<_;decide),aK rfl,fun l hl=>?_⟩;have s1:=ao.upd (o:=.lst [V.int 1,V.int 100003]) hl;have b0:=Hs (c / 9973) (show(2:Int)≠0 by decide);have b1:=Hz (c / 9973) (show(0:Int)<2 by decide);have hv:atI [V.int 1,V.int 100003] (c / 9973 % 2)=some (.int (if c / 9973 % 2=0 then 1 else 100003)):=by
  rcases (show c / 9973 % 2=0\/c / 9973 % 2=1 by lia)with z|z
  ·rw[z];rfl
  ·rw[z];rfl
 refine⟨_,rfl,_,_,rfl,rfl,⟨by decide,by decide⟩,_,_,rfl,rfl,(by show(0:Int)<_;decide),l,_,_,_,rfl,rfl,SqL.of af,hv,_,_,rfl,rfl,.inl ⟨by lia,by lia⟩,_,_,rfl,rfl,?_⟩;exact q _ s1
def gH(K:Frag):Sp:=fun vs H Q _=>∃(d:Addr)(kvs:List (Key×V))(g:Nat->Option Col)(ks:List Nat),vs=[.ref d]/\H d=some (.dK kvs)/\GD K H kvs g/\(kvs.map fun q=>kV q.1)=NV ks/\ks.Pairwise (·<·)/\ks.length<=64/\(∀i,i∈ks<->(g i).isSome=true)/\(∀i∈ks,i<64)/\∀l R H',ao H H'->StrT K H' l R->bq g R->Q (.ref l) H'
variable(bH:Df P w K mg base 1 "_law_make_strips" ["_law_columns"] (gH K))
theorem cI:aA ["_law_columns","_law_found","_law_places","_law_cell","_law_column"] ["_law_columns"] (ak (top 52)):=by trivial
include B in
theorem kY(T:Tx K mg "_law_make_strips" (top 52) ["_law_columns"]):Df P w K mg base 1 "_law_make_strips" ["_law_columns"] (gH K):=by
 refine T.df cI (by rintro _ _ _ _ ⟨d,kvs,g,ks,rfl,hd,hg,hk,ndk,lk,memk,k64,q⟩;rfl) ?_;rintro f _ A _ s H _ Q E hr ⟨d,kvs,g,ks,rfl,hd,hg,hk,ndk,lk,memk,k64,q⟩;have hu:=hr.units;refine aO ?_;intro kX;refine ah 3 (aj (aC (bO bW (by rfl) B.tuple boot_tuple (aa (bR ["_law_one"] [] (fC _ []) rfl (by rfl) rfl (by trivial) (by trivial) (aU (by rfl)) (cC (by rfl)) mN mN (bE (by decide)) (dJ (pv 1)) (fun _ _ _ _=>aM (i:=0) (show(["_law_one"]:List Str).Nodup by trivial) rfl (Or.inl rfl) (Or.inr rfl)) (fun _ _ _ _=>bQ) (fun _ _ _ _=>(aX (aa (aH (jL (K:=K) rfl) (pv 0) ae (fun _ _=>rfl)) (aa (aH (jL (K:=K) rfl) (pv 0) ae (fun _ _=>rfl)) ag))))) ag)))) ?_;intro kR3 pR3;refine bS 2 2 (aj (vS (aq bg (aH bD (aH bD (pv 1) (tG hu (pv 2) (pv 4) (fun _ _=>rfl)) (fun _ _=>rfl)) ae (fun _ _=>rfl)) (aq f7 ae (pv 3))) (zL (aH bD (pv 1) (tG hu (pv 2) (pv 4) (fun _ _=>rfl)) (fun _ _=>rfl)) ae set_list))) ?_;intro kS2x2 pS2x2;refine bS 2 1 (aY (aT (Dw (yl hu (pv 4) (pv 2))) (ai (xb hu (pv 2) (pv 4) (aV bo (by rfl) B.len Hw (aa (pv 1) ag)) rfl) (aj (cO (jh G4 He Hd cH (pv 1) (aa (cA (aa ae (aa (pv 4) ag))) ag))))) aG) pS2x2) ?_;intro kS2x1 pS2x1;refine bS 2 0 (ai (aw (i:=4) cI.nd rfl (by trivial) (mG (kG hr) (pv 0) (pv 3) (fun _ _=>rfl))) pS2x1) ?_;intro kS2x0 pS2x0;refine ah 2 (ai (cq GW rfl (dJ (aV (LT.lP rfl) (by rfl) B.sorted (by trivial) (aa (pv 0) ag))) (aM (i:=3) cI.nd rfl (by trivial)) pS2x0) pR3) ?_;intro kR2 pR2;refine ah 1 (ai (aw (i:=2) cI.nd rfl (by trivial) uL) pR2) ?_;intro kR1 pR1;refine⟨_,(ai (aw (i:=1) cI.nd rfl (by trivial) (cA ag)) pR1),?_⟩;refine⟨aK rfl,fun l1 hl1=>?_⟩;refine fun dp hdp hsm=>?_;have n12:l1≠dp:=fun e=>by rw[<-e,af]at hdp;cases hdp
 have hdp0:H dp=none:=by rw[<-hdp,av n12.symm]
 have s0:ao H (upd (upd H l1 (.lst [])) dp (gh dp gb)):=(ao.upd hl1).trans (ao.upd hdp);have M0:MsG P w K H (upd (upd H l1 (.lst [])) dp (gh dp gb)) l1 dp (bz g 0) (msk g 0) [] gb []:=⟨s0,hl1,hdp0,(fun _ z=>nomatch z),(by rw[av n12];exact af),(fun z=>nomatch z),List.nodup_nil,.nil,⟨af,qA _ _,hsm,(fun _ z=>nomatch z)⟩,.nil⟩;refine⟨_,rfl,d,kvs,ks.map (fun k:Nat=>(k:Int)),rfl,.inl (s0 _ _ hd),by rw[hk,HR];rfl,by rw[Gh];lia,HZ.mpr (ndk.imp fun h=>by lia),fun l3 ns' hl3 pm so=>?_⟩;obtain⟨cs,pc,rfl⟩:=LT.uK pm;have n31:l3≠l1:=fun z=>by rw[z,av n12,af]at hl3;cases hl3
 have soc:cs.Pairwise (·<·):=by
  have h1:cs.Pairwise (·<=·):=by rw[HZ]at so;exact so.imp fun h=>by lia
  have h2:=List.nodup_iff_pairwise_ne.mp (pc.nodup_iff.mpr (ndk.imp G5));exact(h1.and h2).imp fun⟨a,b⟩=>by lia
 have memc:∀i,i∈cs<->(g i).isSome=true:=fun i=>by rw[pc.mem_iff];exact memk i
 have c64:∀i∈cs,i<64:=fun i hi=>k64 i (pc.mem_iff.mp hi);have lc:=pc.length_eq;refine⟨l3,rfl,⟨_,SqL.of af⟩,eJ (K:=K) (a:=l3) (xs:=(cs.map fun k:Nat=>(k:Int)).map V.int) (fun i σ H2=>∃(o3 o4:Option V)(m:Nat)(as:List Addr)(o:Obj)(T:CT),σ=[some (.ref d),some (.ref l1),some (.ref dp),o3,o4]/\H2 l3=some (.lst ((cs.map fun k:Nat=>(k:Int)).map V.int))/\MsG P w K H H2 l1 dp (bz g m) (msk g m) as o T/\m<=64/\¬l3∈as/\∀t,t∈cs.take i<->t∈cs/\t<m) ?_ ?_ ?_ ?_⟩
 ·exact⟨none,none,0,[],gb,[],rfl,af,M0.same (ao.upd hl3),by decide,(fun z=>nomatch z),fun t=>by simp⟩
 ·rintro i σ H2 _ ⟨o3,o4,m,as,o,T,rfl,h3,_⟩;exact SqL.of h3
 ·rintro i y σ H2 hi ⟨o3,o4,m,as,o,T,rfl,h3,M,m64,nl3,tk⟩;refine dw ?_;intro kD1;obtain⟨c,hc,rfl⟩:∃c,cs[i]?=some c/\y=.int ((c:Nat):Int):=by
   rw[GX,GX]at hi;cases e:cs[i]? with
   |none=>rw[e]at hi;cases hi
   |some c=>rw[e]at hi;cases hi;exact⟨c,rfl,rfl⟩
  have cm:c∈cs:=Gp hc;have c6:=c64 c cm;obtain⟨b,col,e1,e2,hb0⟩:∃b col,fo kvs (.inl (c:Int))=some (.ref b)/\g c=some col/\bX K H b col:=by
   rcases hg c with z|z
   ·have:=(memc c).mp cm;rw[z.2]at this;cases this
   ·exact z
  have pt:=w9 soc hc;have mc:m<=c:=G8 fun z=>by
   have:=(pt c).mp ((tk c).mpr ⟨cm,by lia⟩)
   lia
  have none':∀j,m<=j->j<c->g j=none:=fun j h1 h2=>by
   cases e:g j with
   |none=>rfl
   |some x=>
    have jm:j∈cs:=(memc j).mpr (by rw[e];rfl);have:=((tk j).mp ((pt j).mpr ⟨jm,h2⟩)).2
    lia
  obtain⟨ed,em⟩:=lN mc none';have M1:MsG P w K H H2 l1 dp (bz g c) (msk g c) as o T:=by rw[ed];exact M.congr fun x=>(em x).symm
  have hd2:=M1.sm _ _ hd;have dg:=rA.k (k:=.inl (c:Int)) hd2;rw[e1]at dg;have hb2:=hb0.tk M1.sm.tk;have dl:=nS g c;refine⟨_,rfl,_,rfl,d,_,rfl,dg,?_⟩;refine⟨fun σ' H'=>∃(as:List Addr)(o:Obj)(T:CT),σ'=[some (.ref d),some (.ref l1),some (.ref dp),some (.int (c:Nat)),some (.ref b)]/\H' l3=some (.lst ((cs.map fun k:Nat=>(k:Int)).map V.int))/\MsG P w K H H' l1 dp (bz g (c+1)) (msk g c) as o T/\¬l3∈as/\bX K H' b col,?_,?_⟩
  ·refine eI ?_;intro kD2;refine⟨_,rfl,_,rfl,dp,o,T,b,col,rfl,M1.co,rfl,hb2,_,rfl,?_⟩;by_cases hin:col∈bz g c
   ·obtain⟨j,hj,ej⟩:=List.getElem_of_mem hin;rw[M1.place (mY g c) (j:=j) (c:=col) (by rw[GB hj,ej])];refine eZ ?_;exact⟨as,o,T,rfl,h3,by rw[mZ e2 hin];exact M1,nl3,hb2⟩
   ·rw[M1.noplace hin];refine ip ?_;have la:=M1.len;have lt:=M1.tlen;refine⟨_,rfl,l1,_,rfl,.inl (SqL.of M1.hl),_,rfl,_,rfl,dp,o,T,b,col,rfl,M1.co,rfl,hb2,by lia,fun o' ho'=>?_⟩;rw[Gh]at ho';have d1:l1≠dp:=n12;have hl5:(upd H2 dp (gh dp o')) l1=some (.lst (as.map V.ref)):=(by rw[av d1];exact M1.hl);refine⟨_,rfl,.inl ⟨rfl,_,SqL.of hl5⟩,_,rfl,aK rfl,fun a5 ha5=>?_⟩;have a5l:l1≠a5:=fun z=>by rw[<-z,hl5]at ha5;cases ha5
    have a53:l3≠a5:=fun z=>by rw[<-z,av (jj h3 M1.co.1 (fun z=>nomatch z)),h3]at ha5;cases ha5
    have hl6:(upd (upd H2 dp (gh dp o')) a5 (.lst [.int 0,.ref b])) l1=some (.lst (as.map V.ref)):=(by rw[av a5l];exact hl5);refine⟨l1,_,_,rfl,rfl,hl6,aF (by rw[Gh];lia),?_⟩;have MN:=M1.new hin (B4 hin) hb2 ho' ha5;refine⟨as++[a5],o',_,rfl,?_,by rw[j6 e2 hin];exact MN,fun z=>?_,hb0.tk MN.sm.tk⟩
    ·rw[av n31,av a53,av (jj h3 M1.co.1 (fun z=>nomatch z))];exact h3
    ·rcases Gv.mp z with y|y
     ·exact nl3 y
     ·exact a53 (Gk.mp y)
  ·rintro σ' H5 ⟨as,o,T,rfl,h35,M5,nl5,hb5⟩;clear M M1 dg tk;have cin:col∈bz g (c+1):=(gF g col (c+1)).mpr ⟨c,by omega,e2⟩;have nd:=mY g (c+1);obtain⟨j,hj,ej⟩:=List.getElem_of_mem cin;have hj':(bz g (c+1))[j]?=some col:=(by rw[GB hj,ej]);have la:=M5.len;have ja:j<as.length:=(by lia);have haj:as[j]?=some as[j]:=GB ja;obtain⟨col',e5,b',ha,hb'⟩:=aQ M5.pr haj;rw[hj']at e5;cases e5;have pla:=M5.place nd hj';have hat:atI (as.map V.ref) ((j:Nat):Int)=some (.ref as[j]):=au (by rw[GX,haj];rfl);have ex:((msk g c col:Nat):Int)+1*2^((c:Nat):Int).toNat=((msk g c col+2^c:Nat):Int):=by
    rw[Int.one_mul,Hg,Int.natCast_add,Int.natCast_pow];rfl
   refine⟨_,rfl,_,rfl,_,rfl,dp,o,T,b,col,_,rfl,M5.co,rfl,hb5,pla,l1,_,_,_,rfl,rfl,SqL.of M5.hl,hat,as[j],_,_,_,rfl,rfl,SqL.of ha,au (j:=0) rfl,_,rfl,_,_,rfl,rfl,⟨by lia,by lia,by decide⟩,_,_,rfl,rfl,?_⟩;refine⟨_,rfl,_,rfl,_,rfl,dp,o,T,b,col,_,rfl,M5.co,rfl,hb5,pla,l1,_,_,_,rfl,rfl,SqL.of M5.hl,hat,as[j],_,_,0,rfl,rfl,ha,xy (j:=0) (by simp),?_⟩;show ∃(o3 o4:Option V)(m:Nat)(as':List Addr)(o:Obj)(T:CT),_/\(upd H5 as[j] (.lst [V.int (((msk g c col:Nat):Int)+1*2^((c:Nat):Int).toNat),.ref b'])) l3=_/\MsG P w K H (upd H5 as[j] (.lst [V.int (((msk g c col:Nat):Int)+1*2^((c:Nat):Int).toNat),.ref b'])) l1 dp _ _ as' o T/\_;rw[ex];refine⟨_,_,c+1,as,o,T,rfl,?_,(M5.bump nd (x:=msk g c col+2^c) hj' haj ha hb').congr fun y=>?_,by lia,nl5,zH soc hc⟩
   ·rw[av (fun z=>nl5 (by rw[z];exact Ig ja))];exact h35
   ·show(if y=col then _ else _)=(if g c=some y then _ else _);by_cases z:y=col
    ·subst z;rw[Gz rfl,Gz e2]
    ·rw[Gu z,Gu (fun q=>z (by rw[e2]at q;exact(G2 q).symm))]
 ·rintro σ H2 ⟨o3,o4,m,as,o,T,rfl,h3,M,m64,nl3,tk⟩;rw[Gh,Gh,GL]at tk;obtain⟨ed,em⟩:=lN (g:=g) m64 fun j h1 h2=>by
   cases e:g j with
   |none=>rfl
   |some x=>
    have:=((tk j).mp ((memc j).mpr (by rw[e];rfl))).2
    lia
  have M1:MsG P w K H H2 l1 dp (bz g 64) (msk g 64) as o T:=by rw[ed];exact M.congr fun x=>(em x).symm
  have la:=M1.len;have dl:=nS g 64;clear M tk ed em;refine⟨_,rfl,l1,rfl,⟨_,SqL.of M1.hl⟩,fun D hD=>?_⟩;refine vw (K:=K) (a:=l1) (xs:=as.map V.ref) (fun i acc H3=>ao H2 H3/\H3 D=some (.lst acc)/\Paired (cE K H3) acc (((bz g 64).take i).map fun c=>(msk g 64 c,c))) ⟨ao.upd hD,af,.nil⟩ (fun i acc H3 _ ⟨s3,_⟩=>SqL.of (s3 _ _ M1.hl)) ?_ ?_
  ·rintro i x acc H3 hi ⟨s3,h3,pr3⟩;refine dM ?_;intro kq3 kr3;obtain⟨a,ha,rfl⟩:∃a,as[i]?=some a/\x=.ref a:=by
    rw[GX]at hi;cases e:as[i]? with
    |none=>rw[e]at hi;cases hi
    |some a=>rw[e]at hi;cases hi;exact⟨a,rfl,rfl⟩
   obtain⟨c,hc,b,e,hb⟩:=aQ M1.pr ha;have il:i<as.length:=(GA.mp ha).1;refine⟨_,rfl,a,_,_,_,rfl,rfl,SqL.of (s3 _ _ e),au (j:=0) rfl,_,rfl,a,_,_,_,rfl,rfl,SqL.of (s3 _ _ e),au (j:=1) rfl,aK rfl,fun r4 hr4=>?_⟩;have s4:=ao.upd (o:=.tup [.int (msk g 64 c:Nat),.ref b]) hr4;have lacc:acc.length<sizeLine:=by rw[Gw pr3,Gh,GR];exact aF (by lia)
   refine⟨s4 _ _ h3,lacc,?_,af,?_⟩
   ·intro b5 o5 e5;rw[av (fun z=>by rw[z,hD]at e5;cases e5)];exact s4 _ _ (s3 _ _ e5)
   ·rw[GF,hc,G3,GK];have tk2:=TK.lst (o:=.lst (acc++[.ref r4])) (s4 _ _ h3);exact Paired.app (Paired.imp (fun _ _ z=>(z.tk s4.tk).tk tk2) pr3) (.cons (cE.tk tk2 ⟨r4,b,rfl,SqT.of af,hb.tk (s3.trans s4).tk⟩) .nil)
  ·rintro acc H3 ⟨s3,h3,pr3⟩;rw[Gh,la,GL]at pr3;refine⟨D,_,rfl,.inl ⟨SqL.of h3,fun l6 hl6=>?_⟩⟩;have s6:=ao.upd (o:=.tup acc) hl6;exact q l6 _ _ (M1.sm.trans (s3.trans s6)) ⟨acc,SqT.of af,Paired.imp (fun _ _ z=>z.tk s6.tk) pr3⟩ (kM g)
def gO(K:Frag):Sp:=fun vs H Q _=>∃(v:V)(p:Plt)(rs:List (List Key)),vs=[v]/\PlE K H v p/\jk rs p.R/\∀(l:Addr)(ys:List V)(T:Col) H',ao H H'->H' l=some (.lst ys)->Paired (bM K H') ys T->A6 (p.R.map (·.2)) T->Q (.ref l) H'
variable(bL:Df P w K mg base 1 "_law_all_burdens" ["_law_plot"] (gO K))
theorem cK:aA ["_law_plot","_law_found","_law_cells","_law_column","_law_burden"] ["_law_plot"] (ak (top 60)):=by trivial
include B in
theorem lB(T:Tx K mg "_law_all_burdens" (top 60) ["_law_plot"]):Df P w K mg base 1 "_law_all_burdens" ["_law_plot"] (gO K):=by
 refine T.df cK (by rintro _ _ _ _ ⟨v,p,rs,rfl,hp,hN,q⟩;rfl) ?_;rintro f _ A _ s H _ Q E hr ⟨v,p,rs,rfl,hp,hN,q⟩;have hu:=hr.units;refine aO ?_;intro kX;refine ah 2 (aj (aC (bR ["_law_number"] [("_law_found",1)] (fC _ ["_law_found"]) rfl (by rfl) rfl (by trivial) (by trivial) (aU (by rfl)) (cC (by rfl)) (mC ⟨rfl,rfl⟩ mN) (mC rfl mN) (bE (by decide)) (dJ (aV (qC rfl) (by rfl) B.sorted (by trivial) (aa (pv 1) ag))) (fun _ _ _ _=>aM (i:=0) (show(["_law_number","_law_found"]:List Str).Nodup by trivial) rfl (Or.inl rfl) (Or.inr rfl)) (fun _ _ _ _=>bQ) (fun _ _ _ _=>(mG (kG hr) (pv 1) (pv 0) (fun _ _=>rfl)))))) ?_;intro kR2 pR2;refine ah 1 (ai (cq GW rfl (eF (aH aL (pv 0) ae (fun _ _=>rfl))) (nq rfl (cV (aM (i:=2) cK.nd rfl (by trivial)) (cV (aM (i:=3) cK.nd rfl (by trivial)) jS))) (aj (cq GW rfl (eF (pv 3)) (aM (i:=4) cK.nd rfl (by trivial)) (aj (mD (kG hr) (pv 1) (aH aL (pv 4) ae (fun _ _=>rfl)) (pv 4) rfl))))) pR2) ?_;intro kR1 pR1;refine⟨_,(ai (aw (i:=1) cK.nd rfl (by trivial) mF) pR1),?_⟩;obtain⟨l,ls,lr,rfl,h1,h2,xs,hl,pr⟩:=hp;have nd:=hN.nd;have hib:=hN.bur;have hsub:∀c∈p.R.map (·.2),∀r∈c,r∈rs:=fun c hc r hr=>by obtain⟨q0,hq0,rfl⟩:=Gm.mp hc;exact hN.sub q0 hq0 r hr
 have inj:=tS nd;have lx:xs.length=(p.R.map (·.2)).length:=by rw[Gh];exact Gw pr
 have hrs:=hN.l59;have len:∀(D:List (List Key)),(D.map aN).Nodup->(∀r∈D,r∈rs)->D.length<=59:=fun D n1 h1=>by
  have:=HI n1 (l₂:=rs.map aN) fun x hx=>by obtain⟨r,hr,e⟩:=Gm.mp hx;exact Gm.mpr ⟨r,h1 r hr,e⟩
  rw[Gh,Gh]at this
  lia
 intro d hd;refine⟨_,rfl,l,_,_,_,rfl,rfl,(ao.upd hd).tup h1,au (j:=2) rfl,lr,rfl,⟨_,(ao.upd hd).tup hl⟩,gv (K:=K) (a:=lr) (xs:=xs) (fun i σ H2=>∃(o1 o2 o3:Option V)(kvs:List (Key×V))(D:List (List Key)),σ=[some (.ref l),some (.ref d),o1,o2,o3]/\H2=upd H d (.dK kvs)/\Paired (KB K H) kvs D/\(D.map aN).Nodup/\∀r,r∈D<->∃c∈(p.R.map (·.2)).take i,r∈c) ⟨none,none,none,[],[],rfl,rfl,.nil,List.nodup_nil,fun r=>by simp⟩ (fun i σ H2 _ hPz=>hPz.elim fun _ hPz=>hPz.elim fun _ hPz=>hPz.elim fun _ hPz=>hPz.elim fun _ hPz=>hPz.elim fun _ hPz=>(fun e=>by rw[e];exact(ao.upd hd).tup hl) (hPz.2.1)) ?_ ?_⟩
 ·rintro i y σ H2 hi ⟨o1,o2,o3,kvs,D,rfl,rfl,kb,nd2,hD⟩;refine dw ?_;intro kD1;obtain⟨q0,hq0,r1,b,rfl,hr1,hb⟩:=aQ pr hi;obtain⟨c,ec⟩:∃c,c=q0.2:=⟨_,rfl⟩;rw[<-ec]at hb;have hc:(p.R.map (·.2))[i]?=some c:=by rw[GX,hq0,ec];rfl
  have cin:=Gp hc;obtain⟨lay,ys,hy,py⟩:=id hb;have ly:ys.length=c.length:=Gw py;refine⟨r1,_,rfl,(ao.upd hd).tup hr1,rfl,_,_,rfl,_,_,rfl,rfl,?_⟩;refine⟨_,rfl,b,rfl,⟨_,(ao.upd hd).tup hy⟩,gv (K:=K) (a:=b) (xs:=ys) (fun j σ H2=>∃(o3:Option V)(kvs:List (Key×V))(D:List (List Key)),σ=[some (.ref l),some (.ref d),some (.int (q0.1:Nat)),some (.ref b),o3]/\H2=upd H d (.dK kvs)/\Paired (KB K H) kvs D/\(D.map aN).Nodup/\∀r,r∈D<->(∃c'∈(p.R.map (·.2)).take i,r∈c')\/r∈c.take j) ⟨o3,kvs,D,rfl,rfl,kb,nd2,fun r=>by rw[hD];simp⟩ (fun j σ H2 _ hPz=>hPz.elim fun _ hPz=>hPz.elim fun _ hPz=>hPz.elim fun _ hPz=>(fun e=>by rw[e];exact(ao.upd hd).tup hy) (hPz.2.1)) ?_ ?_⟩
  ·rintro j y σ H2 hj ⟨o3',kvs',D',rfl,rfl,kb',nd',hD'⟩;refine dw ?_;intro kD2;obtain⟨r,hr,a,rfl,ha⟩:=aQ py hj;have rin:r∈c:=Gp hr;have rrs:=hsub c cin r rin;have bur:bM K H (.ref a) r:=⟨lay r rin,a,rfl,ha⟩;have Dsub:∀x∈D',x∈rs:=fun x hx=>by
    rcases (hD' x).mp hx with⟨c',hc',z⟩|z
    ·exact hsub c' (Ii hc') x z
    ·exact hsub c cin x (Ii z)
   have ub:∀x∈D',aN x=aN r->x=r:=fun x hx e=>inj x (Dsub x hx) r rrs e;have lk:kvs'.length<=59:=(by rw[Gw kb'];exact len D' nd' Dsub);have put:=Ao bur kb' ub;have fin:∀x,x∈rl D' r<->(∃c'∈(p.R.map (·.2)).take i,x∈c')\/x∈c.take (j+1):=fun x=>by rw[vC ub,hD',GF,hr,G3,Gv,Gk,or_assoc]
   have nda:=xU (r:=r) nd';obtain⟨n,k,x,m,u,er⟩:=hib r rrs;have en:aN r=n:=(by rw[er];rfl);rw[en]at put;rw[er]at ha;refine⟨_,rfl,_,rfl,_,rfl,a,_,_,_,rfl,rfl,(ao.upd hd).tup ha,(au (j:=0) rfl),d,_,rfl,uw.k (k:=.inl n) af (aF (by lia)),?_⟩;exact⟨_,_,rl D' r,rfl,by rw[aZ],put,nda,fin⟩
  ·rintro σ H2 ⟨o3',kvs',D',rfl,rfl,kb',nd',hD'⟩;refine⟨_,_,_,kvs',D',rfl,rfl,kb',nd',fun r=>?_⟩;rw[hD',ly,GL,GF,hc,G3];constructor
   ·rintro(⟨c',h1,h2⟩|h)
    ·exact⟨c',GI _ h1,h2⟩
    ·exact⟨c,GQ _ (Gk.mpr rfl),h⟩
   ·rintro⟨c',h1,h2⟩;rcases Gv.mp h1 with z|z
    ·exact .inl ⟨c',z,h2⟩
    ·rw[Gk.mp z]at h2;exact .inr h2
 ·rintro σ H2 ⟨o1,o2,o3,kvs,D,rfl,rfl,kb,nd2,hD⟩;rw[lx,GL]at hD;have Dsub:∀x∈D,x∈rs:=fun x hx=>by
   obtain⟨c',hc',z⟩:=(hD x).mp hx;exact hsub c' hc' x z
  have lD:=len D nd2 Dsub;have s1:=ao.upd (o:=.dK kvs) hd;have hd1:(upd H d (.dK kvs)) d=some (.dK kvs):=af;generalize (upd H d (.dK kvs))=H1 at s1 hd1 ⊢;refine⟨_,rfl,d,kvs,D.map aN,rfl,.inl hd1,xw kb,by rw[Gh];lia,fun l4 ns' hl4 pm so=>?_⟩;have s4:=ao.upd (o:=.lst (ns'.map V.int)) hl4;have h4:(upd H1 l4 (.lst (ns'.map V.int))) l4=some (.lst (ns'.map V.int)):=af;have ln:ns'.length<=59:=by rw[pm.length_eq,Gh];exact lD
  have hd4:=s4 _ _ hd1;have s14:=s1.trans s4;generalize (upd H1 l4 (.lst (ns'.map V.int)))=H4 at s4 h4 hd4 s14 ⊢;refine⟨l4,rfl,⟨_,SqL.of h4⟩,fun A1 hA1=>?_⟩;refine vw (K:=K) (a:=l4) (xs:=ns'.map V.int) (fun i acc H5=>H5=upd H4 A1 (.lst acc)/\∃T:List (List Key),Paired (bM K H) acc T/\T.map aN=ns'.take i/\∀r∈T,r∈D) ⟨rfl,[],.nil,rfl,fun _ z=>nomatch z⟩ (fun i acc H5 _ ⟨e,_⟩=>by rw[e];exact(ao.upd hA1).seq (SqL.of h4)) ?_ ?_
  ·rintro i y acc H5 hi ⟨rfl,T,pT,mT,sT⟩;refine dM ?_;intro kq3 kr3;obtain⟨n,hn,rfl⟩:∃n,ns'[i]?=some n/\y=.int n:=by
    rw[GX]at hi;cases e:ns'[i]? with
    |none=>rw[e]at hi;cases hi
    |some n=>rw[e]at hi;cases hi;exact⟨n,rfl,rfl⟩
   obtain⟨v,r,ev,hr,er,hv⟩:=An kb (pm.mem_iff.mp (Gp hn));have dg:=rA.k (k:=.inl n) ((ao.upd (o:=.lst acc) hA1) _ _ hd4);rw[ev]at dg;refine⟨_,rfl,_,rfl,d,_,rfl,dg,af,aF ?_,by rw[aZ],T++[r],Paired.app pT (.cons hv .nil),?_,fun x hx=>?_⟩
   ·have l1:acc.length=T.length:=Gw pT;have l2:=congrArg List.length mT;rw[Gh,GR]at l2
    lia
   ·rw[GK,mT,GF,hn,G3,GC,List.map_nil,er]
   ·rcases Gv.mp hx with z|z
    ·exact sT x z
    ·rw[Gk.mp z];exact hr
  ·rintro acc H5 ⟨rfl,T,pT,mT,sT⟩;rw[Gh,GL]at mT;have s5:=ao.upd (o:=.lst acc) hA1;exact q A1 acc T _ (s14.trans s5) af (Paired.imp (fun _ _ z=>bM.tk (s14.trans s5).tk z) pT) (C3 nd2 hD pm so mT sT)
def jt(K:Frag):Sp:=fun vs H Q _=>∃(l sg:Addr)(ss xs:List Str),vs=[.ref l,.ref sg]/\SqL K H l (SV xs)/\SqT K H sg (SV ss)/\(∀x∈ss,PyData.canLay0 (.str x)=true)/\(∀x∈xs,PyData.canLay0 (.str x)=true)/\Q (CK (fF ss xs)) H
variable(fP:Df P w K mg base 1 "_law_wanting" ["_law_names","_law_signed"] (jt K))
theorem jA:aA ["_law_names","_law_signed","_law_name_here"] ["_law_names","_law_signed"] (ak (top 63)):=by trivial
include B in
theorem p9(T:Tx K mg "_law_wanting" (top 63) ["_law_names","_law_signed"]):Df P w K mg base 1 "_law_wanting" ["_law_names","_law_signed"] (jt K):=by
 refine T.df jA (by rintro _ _ _ _ ⟨l,sg,ss,xs,rfl,hl,hs,lss,lxs,q⟩;rfl) ?_;rintro f _ A _ s H _ Q E hr ⟨l,sg,ss,xs,rfl,hl,hs,lss,lxs,q⟩;have hu:=hr.units;refine aO ?_;intro kX;refine ah 1 (aj (aC cL)) ?_;intro kR1 pR1;refine⟨_,(ai (cq GW rfl (dJ (pv 0)) (aM (i:=2) jA.nd rfl (by trivial)) (aj (aT (aD (nz hu) (pv 2) (pv 1) (by with_unfolding_all rfl)) (aj (aC (pv 2))) aG))) pR1),?_⟩;refine⟨_,rfl,l,rfl,⟨_,hl⟩,eJ (K:=K) (a:=l) (xs:=SV xs) (fun i σ H2=>∃o2:Option V,σ=[some (.ref l),some (.ref sg),o2]/\H2=H/\fF ss xs=fF ss (xs.drop i)) ⟨none,rfl,rfl,rfl⟩ (fun i σ H2 _ hPz=>hPz.elim fun _ hPz=>(fun e=>by rw[e];exact hl) (hPz.2.1)) ?_ ?_⟩
 ·rintro i y σ H2 hi ⟨o2,rfl,rfl,e⟩;refine dw ?_;intro kD1;obtain⟨x,hx,rfl⟩:∃x,xs[i]?=some x/\y=.str x:=by
   rw[show SV xs=xs.map V.str from rfl,GX]at hi;cases e:xs[i]? with
   |none=>rw[e]at hi;cases hi
   |some x=>rw[e]at hi;cases hi;exact⟨x,rfl,rfl⟩
  rw[jZ hx,rC]at e;refine⟨_,rfl,_,rfl,.str x,ss.map PyData.str,.str _,.inr (.tup hs (nM ss)),lxs x (Gp hx),u5 lss,GP rfl,_,rfl,?_⟩;rw[vB];refine bf (fun h2=>?_) (fun h2=>?_)
  ·have h2':x∉ss:=(by simpa using h2);rw[Gu h2']at e;rw[e]at q;exact⟨_,rfl,q⟩
  ·have h2':x∈ss:=(by simpa using h2);rw[Gz h2']at e;exact⟨_,rfl,rfl,e⟩
 ·rintro σ H2 ⟨o2,rfl,rfl,e⟩;rw[show(SV xs).length=xs.length from Gh _,List.drop_length]at e;rw[e]at q;exact q
def nZ(K:Frag):Sp:=fun vs H Q _=>∃(a:Addr)(n:Int)(u:V)(b:List Key)(here:Bool)(c:Col),vs=[.ref a,.int n,u,.bl here]/\bX K H a c/\GoodC c/\bM K H u b/\∀l H',ao H H'->bX K H' l (vc n b here c)->Q (.ref l) H'
variable(i6:Df P w K mg base 1 "_law_laid" ["_law_column","_law_note","_law_burden","_law_here"] (nZ K))
theorem ou:aA ["_law_column","_law_note","_law_burden","_law_here","_law_numbers"] ["_law_column","_law_note","_law_burden","_law_here"] (ak (top 68)):=by trivial
include B in
theorem uP(T:Tx K mg "_law_laid" (top 68) ["_law_column","_law_note","_law_burden","_law_here"]):Df P w K mg base 1 "_law_laid" ["_law_column","_law_note","_law_burden","_law_here"] (nZ K):=by
 refine T.df ou (by rintro _ _ _ _ ⟨a,n,u,b,here,c,rfl,hc,⟨hb,nd,hl⟩,hu0,q⟩;rfl) ?_;rintro f _ A _ s H _ Q E hr ⟨a,n,u,b,here,c,rfl,hc,⟨hb,nd,hl⟩,hu0,q⟩;refine aO ?_;intro kX;refine ah 3 (aj (aC (bO bW (by rfl) B.tuple boot_tuple (aa (bR ["_law_one"] [("_law_note",1)] (fC _ ["_law_note"]) rfl (by rfl) rfl (by trivial) (by trivial) (aU (by rfl)) (cC (by rfl)) (mC ⟨rfl,rfl⟩ mN) (mC rfl mN) (bE (by decide)) (eF (pv 0)) (fun _ _ _ _=>aM (i:=0) (show(["_law_one","_law_note"]:List Str).Nodup by trivial) rfl (Or.inl rfl) (Or.inr rfl)) (fun _ _ _ _=>iH (aD fW (aH (fN (K:=K) rfl) (pv 0) ae (fun _ _=>rfl)) (pv 1) (aE _))) (fun _ _ _ _=>(pv 0))) ag)))) ?_;intro kR3 pR3;refine ah 2 (ai (aT (dE (pv 3)) (aj (aC (aq jV (pv 0) (aX (aa (pv 2) ag))))) aG) pR3) ?_;intro kR2 pR2;refine ah 1 (ai (aT ((kQ (dE (pv 3)) (iQ (aD jU (pv 1) (pv 4) (by with_unfolding_all rfl)))).pt) (aj (aC (bO bW (by rfl) B.tuple boot_tuple (aa (bR ["_law_one"] [("_law_burden",2),("_law_note",1)] (fC _ ["_law_note","_law_burden"]) rfl (by rfl) rfl (by trivial) (by trivial) (aU (by rfl)) (cC (by rfl)) (mC ⟨rfl,rfl⟩ (mC ⟨rfl,rfl⟩ mN)) (mC rfl (mC rfl mN)) (bE (by decide)) (eF (pv 0)) (fun _ _ _ _=>aM (i:=0) (show(["_law_one","_law_burden","_law_note"]:List Str).Nodup by trivial) rfl (Or.inl rfl) (Or.inr rfl)) (fun _ _ _ _=>bQ) (fun _ _ _ _=>(aH (jL (K:=K) rfl) (cA (aa (pv 0) (aa (pv 1) ag))) (bO ke (by rfl) B.int boot_int (aa (cB cj (aH (fN (K:=K) rfl) (pv 0) ae (fun _ _=>rfl)) (pv 2) (aE _)) ag)) (fun _ _=>rfl)))) ag)))) aG) pR2) ?_;intro kR1 pR1;refine⟨_,(ai (jQ (i:=4) ou.nd rfl (by trivial) ["_law_one"] [] (fC _ []) rfl (by rfl) rfl (by trivial) (by trivial) (aU (by rfl)) (cC (by rfl)) mN mN (bE (by decide)) (eF (pv 0)) (fun _ _ _ _=>aM (i:=0) (show(["_law_one"]:List Str).Nodup by trivial) rfl (Or.inl rfl) (Or.inr rfl)) (fun _ _ _ _=>bQ) (fun _ _ _ _=>(aH (fN (K:=K) rfl) (pv 0) ae (fun _ _=>rfl)))) pR1),?_⟩;obtain⟨xs,hx,pr⟩:=hc.bur;have lx:xs.length=c.length:=Gw pr;have at0:∀{i:Nat}{y:V},xs[i]?=some y->∃r ab,c[i]?=some r/\y=.ref ab/\bM K H (.ref ab) r/\∃zs,SqT K H ab zs/\atI zs 0=some (.int (aN r)):=fun {i y} hi=>by obtain⟨r,hr,bur⟩:=aQ pr hi;obtain⟨lay,ab,rfl,ha⟩:=id bur;obtain⟨nn,k,x,m,u,er⟩:=hb r (Gp hr);refine⟨r,ab,hr,rfl,bur,_,ha,?_⟩;rw[er];exact au (j:=0) rfl
 refine⟨_,rfl,a,rfl,⟨_,hx⟩,fun A hA=>?_⟩;have sA:∀o:HO,ao H (upd H A o):=fun o=>ao.upd hA;refine oH (K:=K) (a:=a) (xs:=xs) (fun i acc H2=>H2=upd H A (.lst acc)/\acc=(((c.take i).map aN).map V.int)) ⟨rfl,rfl⟩ (fun i acc H2 _ ⟨e,_⟩=>by rw[e];exact(sA _).tup hx) ?_ ?_
 ·rintro i y acc H2 hi ⟨rfl,rfl⟩;refine dM ?_;intro kq1 kr1;obtain⟨r,ab,hr,rfl,bur,zs,hz,ez⟩:=at0 hi;have i20:i<xs.length:=(GA.mp hi).1;refine⟨_,rfl,ab,zs,_,_,rfl,rfl,(sA _).tup hz,ez,af,aF (by rw[Gh,Gh,GR];lia),by rw[aZ],?_⟩;rw[GF,hr,G3,GK,GK];rfl
 rintro acc H2 ⟨rfl,rfl⟩;rw[lx,GL];have s1:=sA (.lst ((c.map aN).map V.int));have hA1:(upd H A (.lst ((c.map aN).map V.int))) A=some (.lst ((c.map aN).map V.int)):=af;generalize (upd H A (.lst ((c.map aN).map V.int)))=H1 at s1 hA1 ⊢;clear sA;have xs20:xs.length<=20:=by lia
 refine⟨_,rfl,_,rfl,?_⟩;unfold vc at q;cases here with
 |false=>
  refine eZ (eZ ?_);refine⟨_,rfl,_,rfl,eZ ?_⟩;refine⟨_,rfl,a,rfl,⟨_,s1.tup hx⟩,fun A2 hA2=>?_⟩;have sB:∀o:HO,ao H (upd H1 A2 o):=fun o=>s1.trans (ao.upd hA2);refine oH (K:=K) (a:=a) (xs:=xs) (fun i acc H2=>H2=upd H1 A2 (.lst acc)/\Paired (bM K H) acc (wo n (c.take i))) ⟨rfl,.nil⟩ (fun i acc H2 _ ⟨e,_⟩=>by rw[e];exact(sB _).tup hx) ?_ ?_
  ·rintro i y acc H2 hi ⟨rfl,py⟩;refine dM ?_;intro kq2 kr2;obtain⟨r,ab,hr,rfl,bur,zs,hz,ez⟩:=at0 hi;have tk:c.take (i+1)=c.take i++[r]:=(by rw[GF,hr];rfl);have i20:i<xs.length:=(GA.mp hi).1;refine⟨_,rfl,ab,zs,_,_,rfl,rfl,(sB _).tup hz,ez,_,rfl,rfl,_,rfl,?_⟩;refine bf (fun h1=>?_) (fun h1=>?_)
   ·refine⟨_,rfl,af,aF ?_,by rw[aZ],?_⟩
    ·rw[Gw py];have:=zh n (c.take i);rw[GR]at this
     lia
    ·rw[tk,oY,Gu (vne.mp h1)];exact Paired.app py (.cons bur .nil)
   ·have e:aN r=n:=G8 fun z=>h1 (vne.mpr z);refine⟨rfl,?_⟩;rw[tk,oY,Gz e,GY];exact py
  ·rintro acc H2 ⟨rfl,py⟩;rw[lx,GL]at py;refine⟨A2,_,rfl,.inl ⟨SqL.of af,fun p hp=>?_⟩⟩;have ss:=(sB (.lst acc)).trans (ao.upd (o:=.tup acc) hp);exact q p _ ss (bX.of (SqT.of af) (Paired.imp (fun _ _ z=>bM.tk ss.tk z) py))
 |true=>
  refine ip ?_;refine⟨_,rfl,_,rfl,A,_,rfl,.inl (SqL.of hA1),rfl,nO _,_,rfl,?_⟩;have ein:(if false=true then !inV (.int n) ((c.map aN).map V.int)else inV (.int n) ((c.map aN).map V.int))=wM n c:=by rw[Gu (by decide),qr,AZ]
  rw[ein];refine bf (fun h1=>?_) (fun h1=>?_)
  ·refine⟨_,rfl,a,rfl,⟨_,s1.tup hx⟩,fun A2 hA2=>?_⟩;refine oH (K:=K) (a:=a) (xs:=xs) (fun i acc H2=>ao H1 H2/\H2 A2=some (.lst acc)/\Paired (bM K H) acc ((c.take i).map fun r=>if aN r=n then b else r)) ⟨ao.upd hA2,af,.nil⟩ (fun i acc H2 _ ⟨e,_⟩=>(s1.trans e).tup hx) ?_ ?_
   ·rintro i y acc H2 hi ⟨s2,hA3,py⟩;refine dM ?_;intro kq3 kr3;obtain⟨r,ab,hr,rfl,bur,zs,hz,ez⟩:=at0 hi;have tk:c.take (i+1)=c.take i++[r]:=(by rw[GF,hr];rfl);have i20:i<xs.length:=(GA.mp hi).1;have la:=Gw py;rw[Gh,GR]at la;refine⟨_,rfl,_,rfl,aK rfl,fun l5 hl5=>?_⟩;have s5:=ao.upd (o:=.lst [V.ref ab,u]) hl5;have hat:atI [V.ref ab,u] (if decide (V.int (aN r)=V.int n)=true then 1 else 0)=some (if aN r=n then u else V.ref ab):=by
     by_cases z:aN r=n
     ·rw[Gz (veq.mpr z),Gz z];rfl
     ·rw[Gu (fun y=>z (veq.mp y)),Gu z];rfl
    refine⟨_,rfl,ab,zs,_,_,rfl,rfl,((s1.trans s2).trans s5).tup hz,ez,_,rfl,rfl,.inr ⟨_,rfl,l5,_,_,_,rfl,rfl,SqL.of af,hat,s5 _ _ hA3,aF (by lia),?_,af,?_⟩⟩
    ·intro b' o e;rw[av (fun y=>by rw[y,hA2]at e;cases e)];exact s5 _ _ (s2 _ _ e)
    ·rw[tk,GK];refine Paired.app py (.cons ?_ .nil);show bM K H (if aN r=n then u else V.ref ab) (if aN r=n then b else r);by_cases z:aN r=n
     ·rw[Gz z,Gz z];exact hu0
     ·rw[Gu z,Gu z];exact bur
   ·rintro acc H2 ⟨s2,hA3,py⟩;rw[lx,GL]at py;refine⟨A2,_,rfl,.inl ⟨SqL.of hA3,fun p hp=>?_⟩⟩;have ss:=(s1.trans s2).trans (ao.upd (o:=.tup acc) hp);refine q p _ ss ?_;rw[Gz rfl,AB h1];exact bX.of (SqT.of af) (Paired.imp (fun _ _ z=>bM.tk ss.tk z) py)
  ·refine⟨_,rfl,_,rfl,ip ?_⟩;refine⟨_,rfl,_,rfl,aK rfl,fun r3 hr3=>?_⟩;have s3:=ao.upd (o:=.tup [u]) hr3;refine⟨a,r3,_,_,rfl,rfl,(s1.trans s3).tup hx,SqT.of af,HQ (aF (by show _+1<=1000;lia)),fun r4 H4 s4 h4=>?_⟩;have sA:=s1.trans (s3.trans s4);refine q r4 H4 sA ?_;have hn:∀r∈c,aN r≠n:=fun r hr e=>h1 (sy.mpr ⟨r,hr,e⟩);rw[Gz rfl,nP hn];exact bX.of h4 (Paired.app (Paired.imp (fun _ _ z=>bM.tk sA.tk z) pr) (.cons (hu0.tk sA.tk) .nil))
def md(K:Frag):Sp:=fun vs H Q _=>∃(r:Addr)(m:Nat)(rest:List V),vs=[.ref r]/\SqT K H r (.int (m:Nat)::rest)/\m<2^64/\m≠0/\Q (.int (LM.cb m:Nat)) H
variable(hW:Df P w K mg base 2 "lowest_of" ["strip"] (md K))
theorem sP:aA ["strip"] ["strip"] (ak (top 8)):=by trivial
include B m4 in
theorem tK(T:Tx K mg "lowest_of" (top 8) ["strip"]):Df P w K mg base 2 "lowest_of" ["strip"] (md K):=by refine T.df sP (by rintro _ _ _ _ ⟨r,m,rest,rfl,hr1,hm,h0,q⟩;rfl) ?_;rintro f _ A _ s H _ Q E hr ⟨r,m,rest,rfl,hr1,hm,h0,q⟩;refine⟨_,(aj (aC (aB m4 hr (aa (aH aL (pv 0) ae (fun _ _=>rfl)) ag)))),?_⟩;exact⟨_,rfl,r,_,_,_,rfl,rfl,hr1,(au (j:=0) rfl),m,rfl,hm,fun z=>absurd z h0,fun _=>q⟩
def ku(K:Frag):Sp:=fun vs H Q _=>∃(a:Addr)(R:cw)(rs:List (List Key)),vs=[.ref a]/\StrT K H a R/\R.length<=100/\(∀p∈R,∀r∈p.2,r∈rs)/\rs.length<=59/\(∀r∈rs,eE r)/\(rs.map aN).Nodup/\∀(b:Addr)(T:Col)(H':Hp),ao H H'->A6 (R.map (·.2)) T->bX K H' b T->Q (.ref b) H'
variable(gz:Df P w K mg base 2 "burdens_on" ["strips"] (ku K))
theorem qO:aA ["strips"] ["strips"] (ak (top 11)):=by trivial
include B gA in
theorem qX(T:Tx K mg "burdens_on" (top 11) ["strips"]):Df P w K mg base 2 "burdens_on" ["strips"] (ku K):=by
 refine T.df qO (by rintro _ _ _ _ ⟨a,R,rs,rfl,hT,hz,hsub,hrs,hib,nd,q⟩;rfl) ?_;rintro f _ A _ s H _ Q E hr ⟨a,R,rs,rfl,hT,hz,hsub,hrs,hib,nd,q⟩;refine⟨_,(aj (aC (aB gA hr (aa (bR ["strip"] [] (fC _ []) rfl (by rfl) rfl (by trivial) (by trivial) (aU (by rfl)) (cC (by rfl)) mN mN (bE (by decide)) (eF (pv 0)) (fun _ _ _ _=>aM (i:=0) (show(["strip"]:List Str).Nodup by trivial) rfl (Or.inl rfl) (Or.inr rfl)) (fun _ _ _ _=>bQ) (fun _ _ _ _=>(aH (fN (K:=K) rfl) (pv 0) ae (fun _ _=>rfl)))) ag)))),?_⟩;obtain⟨vs,ha,pr⟩:=hT;have lv:vs.length=R.length:=Gw pr;refine⟨_,rfl,a,rfl,⟨_,ha⟩,fun A1 hA1=>?_⟩;refine oH (K:=K) (a:=a) (xs:=vs) (fun i acc H2=>H2=upd H A1 (.lst acc)/\Paired (yW K H) acc ((R.take i).map (·.2))) ⟨rfl,.nil⟩ (fun i acc H2 _ ⟨e,_⟩=>by rw[e];exact(ao.upd hA1).tup ha) ?_ ?_
 ·rintro i y acc H2 hi ⟨rfl,pc⟩;refine dM ?_;intro kq1 kr1;obtain⟨p,hp,r1,b,rfl,h1,hb⟩:=aQ pr hi;refine⟨_,rfl,r1,_,_,_,rfl,rfl,(ao.upd hA1).tup h1,(au (j:=1) rfl),af,aF ?_,by rw[aZ],?_⟩
  ·rw[Gw pc,Gh,GR];omega
  ·rw[GF,hp,G3,GK];exact Paired.app pc (.cons ⟨b,rfl,hb⟩ .nil)
 ·rintro acc H2 ⟨rfl,pc⟩;rw[lv,GL]at pc;have s1:=ao.upd (o:=.lst acc) hA1;refine⟨A1,acc,_,rs,rfl,SqL.of af,Paired.imp (fun _ _ z=>yW.tk s1.tk z) pc,fun c hc r hr=>?_,hrs,hib,nd,fun b T H' s' hB hT'=>q b T H' (s1.trans s') hB hT'⟩;obtain⟨p,hp,rfl⟩:=Gm.mp hc;exact hsub p hp r hr
def pJ(K:Frag):Sp:=fun vs H Q _=>∃(l:Addr)(xs:List V)(gs:List Nat)(c:Nat),vs=[.ref l,.int c]/\(SqL K H l xs\/SqT K H l xs)/\Paired (HdE K H) xs gs/\c<=64/\Q (cW xs gs c) H
variable(j7:Df P w K mg base 2 "plot_at" ["plots","cell"] (pJ K))
theorem pP:aA ["plots","cell","plot"] ["plots","cell"] (ak (top 14)):=by trivial
include B xO in
theorem vZ(T:Tx K mg "plot_at" (top 14) ["plots","cell"]):Df P w K mg base 2 "plot_at" ["plots","cell"] (pJ K):=by
 refine T.df pP (by rintro _ _ _ _ ⟨l,xs,gs,c,rfl,hl,pr,hc,q⟩;rfl) ?_;rintro f _ A _ s H _ Q E hr ⟨l,xs,gs,c,rfl,hl,pr,hc,q⟩;refine aO ?_;intro kX;refine ah 1 (aj (aC cL)) ?_;intro kR1 pR1;refine⟨_,(ai (cq GW rfl (zK (pv 0)) (aM (i:=2) pP.nd rfl (by trivial)) (aj (aT (dE (aB xO hr (aa (aH aL (pv 2) ae (fun _ _=>rfl)) (aa (pv 1) ag)))) (aj (aC (pv 2))) aG))) pR1),?_⟩;rcases hl with hl|hl
 ·refine .inl ⟨_,rfl,l,rfl,⟨_,hl⟩,eJ (K:=K) (a:=l) (xs:=xs) (fun i σ H2=>∃o2:Option V,σ=[some (.ref l),some (.int c),o2]/\H2=H/\cW xs gs c=cW (xs.drop i) (gs.drop i) c) ⟨none,rfl,rfl,rfl⟩ (fun i σ H2 _ hPz=>hPz.elim fun _ hPz=>(fun e=>by rw[e];exact hl) (hPz.2.1)) ?_ ?_⟩
  ·rintro i y σ H2 hi ⟨o2,rfl,rfl,e⟩;refine dw ?_;intro kD1;obtain⟨g,hg,r,rest,rfl,h1⟩:=aQ pr hi;rw[iX hi hg]at e;refine⟨_,rfl,r,_,_,_,rfl,rfl,h1,(au (j:=0) rfl),_,rfl,g,c,rfl,_,rfl,?_⟩;rw[show(decide (0<=((c:Nat):Int))&&g.testBit ((c:Nat):Int).toNat)=g.testBit c by simp];refine bf (fun h2=>?_) (fun h2=>?_)
   ·rw[Gz h2]at e;refine⟨_,rfl,?_⟩;rw[e]at q;exact q
   ·rw[Gu h2]at e;exact⟨_,rfl,rfl,e⟩
  ·rintro σ H2 ⟨o2,rfl,rfl,e⟩;rw[List.drop_length]at e;have e2:cW xs gs c=.non:=(by rw[e];rfl);rw[e2]at q;exact q
 ·refine .inr ⟨_,rfl,l,rfl,⟨_,hl⟩,gv (K:=K) (a:=l) (xs:=xs) (fun i σ H2=>∃o2:Option V,σ=[some (.ref l),some (.int c),o2]/\H2=H/\cW xs gs c=cW (xs.drop i) (gs.drop i) c) ⟨none,rfl,rfl,rfl⟩ (fun i σ H2 _ hPz=>hPz.elim fun _ hPz=>(fun e=>by rw[e];exact hl) (hPz.2.1)) ?_ ?_⟩
  ·rintro i y σ H2 hi ⟨o2,rfl,rfl,e⟩;refine dw ?_;intro kD2;obtain⟨g,hg,r,rest,rfl,h1⟩:=aQ pr hi;rw[iX hi hg]at e;refine⟨_,rfl,r,_,_,_,rfl,rfl,h1,(au (j:=0) rfl),_,rfl,g,c,rfl,_,rfl,?_⟩;rw[show(decide (0<=((c:Nat):Int))&&g.testBit ((c:Nat):Int).toNat)=g.testBit c by simp];refine bf (fun h2=>?_) (fun h2=>?_)
   ·rw[Gz h2]at e;refine⟨_,rfl,?_⟩;rw[e]at q;exact q
   ·rw[Gu h2]at e;exact⟨_,rfl,rfl,e⟩
  ·rintro σ H2 ⟨o2,rfl,rfl,e⟩;rw[List.drop_length]at e;have e2:cW xs gs c=.non:=(by rw[e];rfl);rw[e2]at q;exact q
def pM(K:Frag):Sp:=fun vs H Q _=>∃(a:Addr)(tv:V)(tl:Option (List Int))(rb:V)(bb:List Key)(c:Col),vs=[.ref a,rb,tv]/\bM K H rb bb/\bX K H a c/\GoodC c/\yV K H tv tl/\∀b H',ao H H'->bX K H' b (qm tl bb c)->Q (.ref b) H'
variable(j9:Df P w K mg base 2 "laid_in" ["column","burden","told"] (pM K))
theorem pW:aA ["column","burden","told","place"] ["column","burden","told"] (ak (top 23)):=by trivial
include B fw in
theorem v9(T:Tx K mg "laid_in" (top 23) ["column","burden","told"]):Df P w K mg base 2 "laid_in" ["column","burden","told"] (pM K):=by refine T.df pW (by rintro _ _ _ _ ⟨a,tv,tl,rb,bb,c,rfl,hbb,hc,⟨hb,nd,hl⟩,hT,q⟩;rfl) ?_;rintro f _ A _ s H _ Q E hr ⟨a,tv,tl,rb,bb,c,rfl,hbb,hc,⟨hb,nd,hl⟩,hT,q⟩;refine aO ?_;intro kX;refine ah 1 (aj (aC (aq jV (aq jV (gT oZ (pv 0) iT (iS (pv 3))) (aX (aa (pv 1) ag))) (gT oZ (pv 0) (iS (pv 3)) iT)))) ?_;intro kR1 pR1;refine⟨_,(ai (aw (i:=3) pW.nd rfl (by trivial) (aB fw hr (aa (pv 0) (aa (pv 2) ag)))) pR1),?_⟩;obtain⟨xs,hx,pr⟩:=hc.bur;have lx:xs.length=c.length:=Gw pr;have hle:=Et tl c;refine⟨_,rfl,_,rfl,a,tv,tl,c,rfl,hc,hb,hT,fun H1 s1=>?_⟩;refine⟨_,rfl,_,rfl,_,rfl,a,xs,rfl,s1.tup hx,fun r1 H2 s2 h2=>?_⟩;rw[AQ (by lia)]at h2;refine⟨_,rfl,aK rfl,fun r3 hr3=>?_⟩;have s3:=ao.upd (o:=.tup [rb]) hr3;refine⟨r1,r3,_,_,rfl,rfl,s3.tup h2,SqT.of af,HQ (aF (by rw[GR];show _+1<=1000;lia)),fun r4 H4 s4 h4=>?_⟩;have s14:=s1.trans (s2.trans (s3.trans s4));refine⟨_,rfl,_,rfl,_,rfl,a,xs,rfl,s14.tup hx,fun r5 H5 s5 h5=>?_⟩;rw[AO (by omega)]at h5;refine⟨r4,r5,_,_,rfl,rfl,s5.tup h4,h5,HQ (aF (by rw[Gn,GR,List.length_drop];show _+1+_<=1000;lia)),fun r6 H6 s6 h6=>?_⟩;have sA:=s14.trans (s5.trans s6);refine q r6 H6 sA ?_;have prA:=Paired.imp (fun _ _ z=>bM.tk sA.tk z) pr;exact bX.of h6 (Paired.app (Paired.app (fg _ prA).1 (.cons (hbb.tk sA.tk) .nil)) (fg _ prA).2)
def mj(K:Frag):Sp:=fun vs H Q _=>∃(a:Addr)(n:Int)(rb:V)(bb:List Key)(c:Col),vs=[.ref a,.int n,rb]/\bM K H rb bb/\bX K H a c/\GoodC c/\∀b H',ao H H'->bX K H' b (iJ n bb c)->Q (.ref b) H'
variable(hZ:Df P w K mg base 2 "filled_in" ["column","note","burden"] (mj K))
theorem mn:aA ["column","note","burden","place"] ["column","note","burden"] (ak (top 27)):=by trivial
include B iZ in
theorem tP(T:Tx K mg "filled_in" (top 27) ["column","note","burden"]):Df P w K mg base 2 "filled_in" ["column","note","burden"] (mj K):=by
 refine T.df mn (by rintro _ _ _ _ ⟨a,n,rb,bb,c,rfl,hbb,hc,⟨hb,nd,hl⟩,q⟩;rfl) ?_;rintro f _ A _ s H _ Q E hr ⟨a,n,rb,bb,c,rfl,hbb,hc,⟨hb,nd,hl⟩,q⟩;refine aO ?_;intro kX;refine ah 2 (aj (aC (aq jV (aq jV (gT oZ (pv 0) iT (iS (pv 3))) (aX (aa (pv 2) ag))) (gT oZ (pv 0) (iS (aq bg (pv 3) ae)) iT)))) ?_;intro kR2 pR2;refine ah 1 (ai (aT (aD ig (pv 3) cL (aE _)) (aj (aC (aq jV (pv 0) (aX (aa (pv 2) ag))))) aG) pR2) ?_;intro kR1 pR1;refine⟨_,(ai (aw (i:=3) mn.nd rfl (by trivial) (aB iZ hr (aa (pv 0) (aa (pv 1) ag)))) pR1),?_⟩;obtain⟨xs,hx,pr⟩:=hc.bur;have lx:xs.length=c.length:=Gw pr;refine⟨_,rfl,_,rfl,a,n,c,rfl,hc,hb,fun H1 s1=>⟨fun i hi=>?_,fun hn=>?_⟩⟩
 ·obtain⟨r,hr,_,_⟩:=id hi;have il:i<c.length:=(GA.mp hr).1;refine⟨_,rfl,rfl,_,rfl,eZ ?_⟩;refine⟨_,rfl,_,rfl,_,rfl,a,xs,rfl,s1.tup hx,fun r1 H2 s2 h2=>?_⟩;rw[AQ (by lia)]at h2;refine⟨_,rfl,aK rfl,fun r3 hr3=>?_⟩;have s3:=ao.upd (o:=.tup [rb]) hr3;refine⟨r1,r3,_,_,rfl,rfl,s3.tup h2,SqT.of af,HQ (aF (by rw[GR];show _+1<=1000;lia)),fun r4 H4 s4 h4=>?_⟩;have s14:=s1.trans (s2.trans (s3.trans s4));refine⟨_,rfl,_,rfl,_,_,rfl,rfl,_,rfl,a,xs,rfl,s14.tup hx,fun r5 H5 s5 h5=>?_⟩;rw[show jO xs (some ((i:Int)+1)) none=xs.drop (i+1)from AO (n:=i+1) (by lia)]at h5;refine⟨r4,r5,_,_,rfl,rfl,s5.tup h4,h5,HQ (aF (by rw[Gn,GR,List.length_drop];show _+1+_<=1000;omega)),fun r6 H6 s6 h6=>?_⟩;have sA:=s14.trans (s5.trans s6);refine q r6 H6 sA ?_;rw[Co nd hi];have prA:=Paired.imp (fun _ _ z=>bM.tk sA.tk z) pr;exact bX.of h6 (Paired.app (Paired.app (fg i prA).1 (.cons (hbb.tk sA.tk) .nil)) (fg (i+1) prA).2)
 ·refine⟨_,rfl,rfl,_,rfl,ip ?_⟩;refine⟨_,rfl,_,rfl,aK rfl,fun r3 hr3=>?_⟩;have s3:=ao.upd (o:=.tup [rb]) hr3;refine⟨a,r3,_,_,rfl,rfl,(s1.trans s3).tup hx,SqT.of af,HQ (aF (by show _+1<=1000;omega)),fun r4 H4 s4 h4=>?_⟩;have sA:=s1.trans (s3.trans s4);refine q r4 H4 sA ?_;rw[nP hn];exact bX.of h4 (Paired.app (Paired.imp (fun _ _ z=>bM.tk sA.tk z) pr) (.cons (hbb.tk sA.tk) .nil))
def jf(K:Frag)(mg:Str->Option Value):Sp:=fun vs H Q _=>∃(a C dx sg:Addr)(num since:Int)(L:dY)(tr:V),vs=[.ref a,.int num,.int since,.ref sg,.int L.c,.str L.kd,.str L.hd,.int L.am,.int L.un,.int L.ov,.int L.nt,.int L.gr,tr]/\H a=some (.ins C dx [])/\rn K mg C/\Q .non (upd H a (.ins C dx (mL num since sg L tr)))
variable(dX:DfT P w K mg base CX0 2 aP "__init__" ["self","number","since","signed","at","kind","holder","amount","until","over","note","ground","trust"] (jf K mg) [.none])
theorem oP:aA ["self","number","since","signed","at","kind","holder","amount","until","over","note","ground","trust"] ["self","number","since","signed","at","kind","holder","amount","until","over","note","ground","trust"] (ak ft):=by trivial
include B eu cZ cf d8 in
theorem oU(T:TxM K aP "__init__" "Lay.__init__" ft ["self","number","since","signed","at","kind","holder","amount","until","over","note","ground","trust"] [.none]):DfT P w K mg base CX0 2 aP "__init__" ["self","number","since","signed","at","kind","holder","amount","until","over","note","ground","trust"] (jf K mg) [.none]:=by refine T.df oP (by rintro _ _ _ _ ⟨a,C,dx,sg,num,since,L,tr,rfl,ha,D,q⟩;rfl) ?_;rintro f _ A _ s H _ Q E hr ⟨a,C,dx,sg,num,since,L,tr,rfl,ha,D,q⟩;refine aO ?_;intro kX;refine ah 9 (aj (f6 (pv 0) (pv 12) rfl)) ?_;intro kR9 pR9;refine ah 8 (ai (f6 (pv 0) (pv 11) rfl) pR9) ?_;intro kR8 pR8;refine ah 7 (ai (f6 (pv 0) (pv 10) rfl) pR8) ?_;intro kR7 pR7;refine ah 6 (ai (f6 (pv 0) (pv 9) rfl) pR7) ?_;intro kR6 pR6;refine ah 5 (ai (f6 (pv 0) (pv 8) rfl) pR6) ?_;intro kR5 pR5;refine ah 4 (ai (f6 (pv 0) (pv 7) rfl) pR5) ?_;intro kR4 pR4;refine ah 3 (ai (f6 (pv 0) (pv 6) rfl) pR4) ?_;intro kR3 pR3;refine ah 2 (ai (f6 (pv 0) (pv 5) rfl) pR3) ?_;intro kR2 pR2;refine ah 1 (ai (f6 (pv 0) (pv 4) rfl) pR2) ?_;intro kR1 pR1;refine⟨_,(ai (cO (zQ d8 eu hr (aa (pv 0) (aa (pv 1) (aa (pv 2) (aa (pv 3) ag)))))) pR1),?_⟩;refine⟨_,rfl,_,rfl,_,rfl,_,rfl,a,C,dx,sg,num,since,rfl,ha,D.pap,?_⟩;refine⟨_,rfl,_,rfl,a,C,dx,_,rfl,af,D.pap.cls,D.at',(by show 3<1000;decide),?_⟩;refine⟨_,rfl,_,rfl,a,C,dx,_,rfl,af,D.pap.cls,D.kd,(by show 4<1000;decide),?_⟩;refine⟨_,rfl,_,rfl,a,C,dx,_,rfl,af,D.pap.cls,D.hd,(by show 5<1000;decide),?_⟩;refine⟨_,rfl,_,rfl,a,C,dx,_,rfl,af,D.pap.cls,D.am,(by show 6<1000;decide),?_⟩;refine⟨_,rfl,_,rfl,a,C,dx,_,rfl,af,D.pap.cls,D.un,(by show 7<1000;decide),?_⟩;refine⟨_,rfl,_,rfl,a,C,dx,_,rfl,af,D.pap.cls,D.ov,(by show 8<1000;decide),?_⟩;refine⟨_,rfl,_,rfl,a,C,dx,_,rfl,af,D.pap.cls,D.nt,(by show 9<1000;decide),?_⟩;refine⟨_,rfl,_,rfl,a,C,dx,_,rfl,af,D.pap.cls,D.gr,(by show 10<1000;decide),?_⟩;refine⟨_,rfl,_,rfl,a,C,dx,_,rfl,af,D.pap.cls,D.tr,(by show 11<1000;decide),?_⟩;simp only[aZ];exact q
def gL(K:Frag):Sp:=fun vs H Q _=>∃(c:Int)(w h:Nat),vs=[.int c,.int w,.int h]/\(0<w/\w<=8/\0<h/\h<=8)/\∀(v:Nat) H',v<2^(w*h)->ao H H'->Q (.int v) H'
variable(bJ:Df P w K mg base 2 "_law_make_ground" ["_law_cell","_law_wide","_law_high"] (gL K))
theorem ba:aA ["_law_cell","_law_wide","_law_high","_law_many","_law_rest","_law_way","_law_found"] ["_law_cell","_law_wide","_law_high"] (ak (top 39)):=by trivial
include B de hX in
theorem k9(T:Tx K mg "_law_make_ground" (top 39) ["_law_cell","_law_wide","_law_high"]):Df P w K mg base 2 "_law_make_ground" ["_law_cell","_law_wide","_law_high"] (gL K):=by
 refine T.df ba (by rintro _ _ _ _ ⟨c,w,h,rfl,⟨hw,hw8,hh,hh8⟩,q⟩;rfl) ?_;rintro f _ A _ s H _ Q E hr ⟨c,w,h,rfl,⟨hw,hw8,hh,hh8⟩,q⟩;refine aO ?_;intro kX;refine ah 8 (aj (aC (aq bp (pv 6) (aq f7 ae (pv 3))))) ?_;intro kR8 pR8;refine ah 7 (aY (aT (aD cj (pv 5) ae (aE _)) (aj (aw (i:=6) ba.nd rfl (by trivial) (aH bD (cA (aa ae (aa (aq f7 ae (aq bp (pv 4) (pv 3))) (aa (aq eY (aq f7 ae (pv 3)) ae) ag)))) (aq bp (aq cg (pv 4) (pv 3)) ae) (fun _ _=>rfl)))) aG) pR8) ?_;intro kR7 pR7;refine ah 6 (aY (aT (aD cj (pv 5) ae (aE _)) (aj (aw (i:=6) ba.nd rfl (by trivial) (aB hX hr (aa (pv 4) (aa (pv 1) (aa (pv 2) ag)))))) aG) pR7) ?_;intro kR6 pR6;refine ah 5 (aY (aT (aD cj (pv 5) ae (aE _)) (aj (aw (i:=6) ba.nd rfl (by trivial) (aq ij (pv 6) (aB de hr (aa (aq bg (aq cg (pv 4) ae) ae) ag))))) aG) pR6) ?_;intro kR5 pR5;refine ah 4 (aY (aT (aD cj (pv 5) ae (aE _)) (aj (aw (i:=6) ba.nd rfl (by trivial) (aq xn (pv 6) (aB de hr (aa (aq bg (aq cg (pv 4) ae) ae) ag))))) aG) pR5) ?_;intro kR4 pR4;refine ah 3 (ai (aw (i:=6) ba.nd rfl (by trivial) (aB de hr (aa (pv 4) ag))) pR4) ?_;intro kR3 pR3;refine ah 2 (ai (aw (i:=5) ba.nd rfl (by trivial) (aq bp (pv 0) ae)) pR3) ?_;intro kR2 pR2;refine ah 1 (ai (aw (i:=4) ba.nd rfl (by trivial) (aq cg (pv 0) ae)) pR2) ?_;intro kR1 pR1;refine⟨_,(ai (aw (i:=3) ba.nd rfl (by trivial) (aq cu (pv 1) (pv 2))) pR1),?_⟩;have hwh:w*h<=64:=Nat.mul_le_mul hw8 hh8;have hwp:0<w*h:=Nat.mul_pos hw hh;have e1:((w:Int)*(h:Int))=((w*h:Nat):Int):=by simp
 have fin:∀(v:Int) H',ao H H'->Q (.int (v % (1*2^(((w*h:Nat):Int)).toNat))) H':=fun v H' s=>by obtain⟨z,ez,hz⟩:=B5 v (w*h);rw[ez];exact q z H' hz s
 refine⟨_,rfl,_,rfl,_,_,rfl,rfl,.inl ⟨by omega,by omega⟩,_,rfl,_,_,rfl,rfl,⟨by decide,by decide⟩,_,rfl,_,_,rfl,rfl,(by show(0:Int)<_;decide),?_⟩;simp only[e1];refine⟨_,rfl,_,rfl,fun v=>?_⟩;have s0:=ao.refl H;refine⟨fun σ' H'=>∃v:Int,σ'=[some (.int c),some (.int w),some (.int h),some (.int ((w*h:Nat):Int)),some (.int (c / 8)),some (.int (c % 8)),some (.int v)]/\ao H H',?_,?_⟩
 ·refine eI ?_;intro kD1;refine⟨_,rfl,rfl,_,rfl,?_⟩;refine bf (fun h1=>?_) (fun h1=>?_)
  ·refine⟨_,rfl,_,rfl,_,_,rfl,rfl,⟨by decide,by decide⟩,_,_,rfl,rfl,_,rfl,fun v2=>⟨_,_,rfl,rfl,?_⟩⟩;exact⟨_,rfl,s0⟩
  ·exact⟨_,rfl,s0⟩
 rintro σ' H1 ⟨v,rfl,s1⟩;refine⟨fun σ' H'=>∃v:Int,σ'=[some (.int c),some (.int w),some (.int h),some (.int ((w*h:Nat):Int)),some (.int (c / 8)),some (.int (c % 8)),some (.int v)]/\ao H H',?_,?_⟩
 ·refine eI ?_;intro kD2;refine⟨_,rfl,rfl,_,rfl,?_⟩;refine bf (fun h1=>?_) (fun h1=>?_)
  ·refine⟨_,rfl,_,rfl,_,_,rfl,rfl,⟨by decide,by decide⟩,_,_,rfl,rfl,_,rfl,fun v2=>⟨_,_,rfl,rfl,?_⟩⟩;exact⟨_,rfl,s1⟩
  ·exact⟨_,rfl,s1⟩
 rintro σ' H3 ⟨v,rfl,s3⟩;refine⟨fun σ' H'=>∃v:Int,σ'=[some (.int c),some (.int w),some (.int h),some (.int ((w*h:Nat):Int)),some (.int (c / 8)),some (.int (c % 8)),some (.int v)]/\ao H H',?_,?_⟩
 ·refine eI ?_;intro kD3;refine⟨_,rfl,rfl,_,rfl,?_⟩;refine bf (fun h1=>?_) (fun h1=>?_)
  ·refine⟨_,rfl,_,rfl,_,rfl,_,w,h,rfl,⟨hw,hw8,hh,hh8⟩,fun v4 H' s'=>?_⟩;exact⟨_,rfl,s3.trans s'⟩
  ·exact⟨_,rfl,s3⟩
 rintro σ' H4 ⟨v,rfl,s4⟩;refine⟨fun σ' H'=>∃v:Int,σ'=[some (.int c),some (.int w),some (.int h),some (.int ((w*h:Nat):Int)),some (.int (c / 8)),some (.int (c % 8)),some (.int v)]/\ao H H',?_,?_⟩
 ·refine eI ?_;intro kD4;refine⟨_,rfl,rfl,_,rfl,?_⟩;refine bf (fun h1=>?_) (fun h1=>?_)
  ·refine⟨_,rfl,_,rfl,_,_,rfl,rfl,(by lia),_,_,rfl,rfl,⟨Hs _ (by lia),by have:=Hz (c / 8) (show(0:Int)<((w*h:Nat):Int) by omega);lia,by decide⟩,_,rfl,_,_,rfl,rfl,⟨by lia,by lia,by decide⟩,_,_,rfl,rfl,aK rfl,fun l hl=>?_⟩;have y3:∃v5:Int,atI [V.int 0,.int (1*2^(c / 8 % ((w*h:Nat):Int)).toNat),.int (1*2^(((w*h:Nat):Int)).toNat-1)] (c / 8 / ((w*h:Nat):Int) % 3)=some (.int v5):=by
    have y4:c / 8 / ((w*h:Nat):Int) % 3=0\/c / 8 / ((w*h:Nat):Int) % 3=1\/c / 8 / ((w*h:Nat):Int) % 3=2:=(by lia);rcases y4 with y|y|y<;>rw[y]<;>exact⟨_,rfl⟩
   obtain⟨v5,y3⟩:=y3;refine⟨_,rfl,_,rfl,_,_,rfl,rfl,⟨by omega,by lia⟩,_,_,rfl,rfl,(by show(0:Int)<_;decide),l,_,_,_,rfl,rfl,SqL.of af,y3,?_⟩;exact⟨_,rfl,s4.trans (ao.upd hl)⟩
  ·exact⟨_,rfl,s4⟩
 rintro σ' H5 ⟨v,rfl,s5⟩;exact⟨_,rfl,_,rfl,_,_,rfl,rfl,⟨by omega,by omega,by decide⟩,_,_,rfl,rfl,uJ _,fin _ _ s5⟩
def mh(K:Frag):Sp:=fun vs H Q _=>∃(w h c k:Nat),vs=[.int w,.int h,.int c,.int k]/\(0<w/\w<=8/\h<=8)/\c<2^(w*h)/\c.testBit k=true/\∀p H',cX w h c k p->ao H H'->Q (.int (p:Nat)) H'
variable(dW:Df P w K mg base 2 "_law_piece" ["_law_wide","_law_high","_law_ground","_law_cell"] (mh K))
theorem dZ:aA ["_law_wide","_law_high","_law_ground","_law_cell","_law_found","_law_todo","_law_here","_law_near"] ["_law_wide","_law_high","_law_ground","_law_cell"] (ak (top 42)):=by trivial
include B gx aS in
theorem tN(T:Tx K mg "_law_piece" (top 42) ["_law_wide","_law_high","_law_ground","_law_cell"]):Df P w K mg base 2 "_law_piece" ["_law_wide","_law_high","_law_ground","_law_cell"] (mh K):=by
 refine T.df dZ (by rintro _ _ _ _ ⟨w,h,c,k,rfl,⟨hw,hw8,hh8⟩,hc,hk,q⟩;rfl) ?_;rintro f _ A _ s H _ Q E hr ⟨w,h,c,k,rfl,⟨hw,hw8,hh8⟩,hc,hk,q⟩;have hu:=hr.units;refine aO ?_;intro kX;refine ah 3 (aj (aC (pv 4))) ?_;intro kR3 pR3;refine bS 2 1 (aj (cq GW rfl (dJ (aB gx hr (aa (pv 0) (aa (pv 1) (aa (pv 6) ag))))) (aM (i:=7) dZ.nd rfl (by trivial)) (aj (aT ((kQ (dE (aB aS hr (aa (pv 2) (aa (pv 7) ag)))) (iQ (pY (dE (aB aS hr (aa (pv 4) (aa (pv 7) ag))))))).pt) (ai (aw (i:=4) dZ.nd rfl (by trivial) (aq bg (pv 4) (aq f7 ae (pv 7)))) (aj (cO (jh G4 He Hd cH (pv 5) (aa (pv 7) ag))))) aG)))) ?_;intro kS2x1 pS2x1;refine bS 2 0 (ai (aw (i:=6) dZ.nd rfl (by trivial) (vW G4 PySem.F.slot_list_pop PySem.F.type_list_pop DO (pv 5))) pS2x1) ?_;intro kS2x0 pS2x0;refine ah 2 (ai (uI GW (aD (zU hu) (pv 5) (cA ag) (aE _)) pS2x0) pR3) ?_;intro kR2 pR2;refine ah 1 (ai (aw (i:=5) dZ.nd rfl (by trivial) (cA (aa (pv 3) ag))) pR2) ?_;intro kR1 pR1;refine⟨_,(ai (aw (i:=4) dZ.nd rfl (by trivial) (aq f7 ae (pv 3))) pR1),?_⟩;have hwh:w*h<=64:=Nat.mul_le_mul hw8 hh8;have p64:2^(w*h)<=2^64:=Hb (by decide) hwh;have hc64:c<2^64:=Gx hc p64;have hu:=hr.units;have hkn:=gg hc hk;have e0:(1:Int)*2^((k:Int)).toNat=((gU 0 [k]:Nat):Int):=by rw[iF];show((2^k:Nat):Int)=((0||| 2^k:Nat):Int);rw[Nat.zero_or]
 refine⟨_,rfl,_,_,rfl,rfl,⟨by lia,by lia,by decide⟩,?_⟩;refine⟨_,rfl,aK rfl,fun l hl=>?_⟩;have s0:=ao.upd (o:=.lst (NV [k])) hl;refine⟨fun m σ H2=>∃(G T:List Nat)(o6 o7:Option V),σ=[some (.int w),some (.int h),some (.int c),some (.int k),some (.int (gU 0 G:Nat)),some (.ref l),o6,o7]/\m=2*(64-G.length)+T.length/\m<=128/\SX l (upd H l (.lst (NV [k]))) H2/\H2 l=some (.lst (NV T))/\qJ w h c k G T,⟨127,[k],[k],none,none,(by rw[<-e0];rfl),rfl,by decide,SX.refl _ _,af,qJ.start hk⟩,?_⟩;rintro m σ H2 ⟨G,T,o6,o7,rfl,rfl,hm,s2,hl2,D⟩;have hG:=D.len hc64;refine⟨_,rfl,aK rfl,fun e he=>?_⟩;have s3:=ao.upd (o:=.lst []) he;have hl3:=s3 _ _ hl2;refine⟨_,_,IsD.lst (SqL.of hl3) (nN T),IsD.lst (SqL.of af) (nN []),u7 _,rfl,by decide,_,rfl,?_⟩;generalize hH3:(upd H2 e (.lst []))=H3 at s3 hl3 ⊢;rcases List.eq_nil_or_concat T with rfl|⟨T,x,rfl⟩
 ·refine eZ ?_;exact⟨_,rfl,q _ H3 D.done ((SX.same hl s0 s2).trans s3)⟩
 ·have ef:PyData.eqv (.list ((T++[x]).map fun k:Nat=>PyData.int (k:Int))) (.list (([]:List Nat).map fun k:Nat=>PyData.int (k:Int)))=false:=by
   cases T with
   |nil=>rfl
   |cons y t=>rfl
  rw[show T.concat x=T++[x] by simp]at*;rw[ef];refine ip ⟨_,fun _ _ z=>z,?_⟩;rw[Gn,HC]at hm;have hxc:=(D.rc x (D.sb x (by simp))).in;have hxn:=gg hc hxc;refine⟨_,rfl,.inl ⟨rfl,_,SqL.of hl3⟩,l,_,.int (x:Int),rfl,rfl,hl3,?_,?_⟩
  ·rw[fK,Gn];simp
  rw[show(NV (T++[x])).dropLast=NV T by rw[fK];exact List.dropLast_concat];refine⟨_,rfl,_,rfl,_,rfl,w,h,x,rfl,⟨by omega,by omega⟩,fun l2 hn2=>⟨l2,rfl,⟨_,SqL.of af⟩,?_⟩⟩;rw[zZ w h x];have hl4:(upd H3 l (.lst (NV T))) l=some (.lst (NV T)):=af;have n2l:l2≠l:=fun z=>by rw[z,af]at hn2;cases hn2
  refine eJ (K:=K) (a:=l2) (xs:=((eD w h x).map fun j:Nat=>(j:Int)).map V.int)
   (fun j σ H4=>∃(M:List Nat)(o7:Option V),σ=[some (.int w),some (.int h),some (.int c),some (.int k),some (.int (gU 0 (G++M):Nat)),some (.ref l),some (.int x),o7]/\SX l (upd (upd H3 l (.lst (NV T))) l2 (.lst (((eD w h x).map fun j:Nat=>(j:Int)).map V.int))) H4/\H4 l=some (.lst (NV (T++M)))/\M.length<=j/\rq w h c k x (G++M) (T++M) ((eD w h x).take j))
   ⟨[],o7,(by rw[GY];rfl),SX.refl _ _,(by rw[av (HB n2l),GY];exact hl4),Gr _,by rw[GY,GY];exact D.mid⟩
   (fun j σ H4 _ ⟨_,_,_,s4,_⟩=>SqL.of (s4 _ _ n2l af)) ?_ ?_
  ·rintro j y σ H4 hj ⟨M,o7',rfl,s4,hl5,hMl,DM⟩;refine dw ?_;intro kD1;obtain⟨z,hz,rfl⟩:=Av hj;have hzm:z∈eD w h x:=Gp hz;have hzn:=BY hw hxn hzm;have hjl:j<(eD w h x).length:=(GA.mp hz).1;have h4:=zY w h x;have et:(eD w h x).take (j+1)=(eD w h x).take j++[z]:=(by rw[GF,hz];rfl);refine⟨_,rfl,_,rfl,c,z,rfl,by lia,_,rfl,?_⟩;refine bf (fun hcz=>?_) (fun hcz=>?_)
   ·refine⟨_,rfl,_,rfl,_,z,rfl,by omega,_,rfl,?_⟩;cases hf:(gU 0 (G++M)).testBit z with
    |true=>refine eZ ⟨M,_,rfl,s4,hl5,by lia,?_⟩;rw[et];exact DM.skip fun _=>ny.mp hf
    |false=>
     have hnG:¬z∈G++M:=fun q'=>by rw[ny.mpr q']at hf;cases hf
     refine ip ?_;refine⟨_,rfl,_,rfl,_,_,rfl,rfl,⟨by lia,by lia,by decide⟩,_,_,rfl,rfl,?_⟩;have ea:((gU 0 (G++M):Nat):Int)+1*2^((z:Int)).toNat=((gU 0 (G++(M++[z])):Nat):Int):=by
      rw[iF,<-HG];have e3:gU 0 (G++M++[z])=gU 0 (G++M)||| 2^z:=by unfold gU;rw[List.foldl_append];rfl
      rw[e3,DE (and_zero fun j hj=>by
       rw[xf,decide_eq_false_iff_not];intro e4;subst e4;rw[hf]at hj
       cases hj)]
      lia
     refine⟨_,rfl,.inl ⟨rfl,_,SqL.of hl5⟩,_,rfl,l,_,_,rfl,rfl,hl5,?_,?_⟩
     ·refine aF ?_;rw[Gh,Gn]
      lia
     refine⟨M++[z],some (.int z),?_,s4.trans SX.set,?_,?_,?_⟩
     ·simp only[ea];rfl
     ·rw[af,<-HG,fK (T++M)];rfl
     ·rw[Gn,HC]
      lia
     ·rw[et,<-HG,<-HG];exact DM.push hcz hzm hnG
   ·refine⟨M,_,rfl,s4,hl5,by omega,?_⟩;rw[et];exact DM.skip fun q'=>absurd q' hcz
  ·rintro σ H4 ⟨M,o7',rfl,s4,hl5,hMl,DM⟩;rw[Gh,Gh,GL]at DM;have DI:=DM.done;have hG2:=DI.len hc64;rw[Gn]at hG2;refine⟨_,?_,G++M,T++M,some (.int x),o7',rfl,rfl,?_,?_,hl5,DI⟩
   ·rw[Gn,Gn,Gn,HC]
    lia
   ·rw[Gn,Gn]
    lia
   ·exact s2.trans ((SX.of s3).trans (SX.set.trans ((SX.of (ao.upd hn2)).trans s4)))
def gJ(K:Frag):Sp:=fun vs H Q _=>∃(z w:Int),vs=[.int z,.int w]/\∀l S H',ao H H'->ShT K H' l S->GS ((List.range 6).map (g9 w)) S->Q (.ref l) H'
variable(dP:Df P w K mg base 2 "_law_make_shares" ["_law_cell","_law_way"] (gJ K))
theorem bU:aA ["_law_cell","_law_way","_law_many","_law_first","_law_weights","_law_scale","_law_total"] ["_law_cell","_law_way"] (ak (top 47)):=by trivial
include B az bV j8 vz in
theorem k7(T:Tx K mg "_law_make_shares" (top 47) ["_law_cell","_law_way"]):Df P w K mg base 2 "_law_make_shares" ["_law_cell","_law_way"] (gJ K):=by
 refine T.df bU (by rintro _ _ _ _ ⟨z,w,rfl,q⟩;rfl) ?_;rintro f _ A _ s H _ Q E hr ⟨z,w,rfl,q⟩
 refine⟨_,(@ai _ _ _ _ _ (@aw _ _ 2 _ _ _ _ bU.nd rfl (by trivial) (aq bg ae (aB az hr (@aa _ _ _ _ _ (pv 0) (@aa _ _ _ _ _ ae (@aa _ _ _ _ _ ae ag rfl) rfl) rfl))) rfl (by trivial)) (@ai _ _ _ _ _ (@aw _ _ 3 _ _ _ _ bU.nd rfl (by trivial) (aB az hr (@aa _ _ _ _ _ (pv 0) (@aa _ _ _ _ _ ae (@aa _ _ _ _ _ ae ag rfl) rfl) rfl)) rfl (by trivial)) (@ai _ _ _ _ _ (@aw _ _ 4 _ _ _ _ bU.nd rfl (by trivial) (bR ["_law_k"] [("_law_cell",0)] (fC _ ["_law_cell"]) rfl (by rfl) rfl (by trivial) (by trivial) (aU (by rfl)) (cC (by rfl)) (mC ⟨rfl,rfl⟩ mN) (mC rfl mN) (bE (by decide)) (bN (by rfl) B.range (@aa _ _ _ _ _ (pv 2) ag rfl)) (fun _ _ _ _=>aM (i:=0) (show(["_law_k","_law_cell"]:List Str).Nodup by trivial) rfl (Or.inl rfl) (Or.inr rfl)) (fun _ _ _ _=>bQ) (fun _ _ _ _=>(aq bg ae (aB az hr (@aa _ _ _ _ _ (pv 1) (@aa _ _ _ _ _ (aq bg ae (pv 0)) (@aa _ _ _ _ _ ae ag rfl) rfl) rfl))))) rfl (by trivial))
  (@ai _ _ _ _ _ (@aw _ _ 5 _ _ _ _ bU.nd rfl (by trivial) (@aH _ _ _ _ _ _ _ bD (@cA _ _ _ _ (@aa _ _ _ _ _ ae (@aa _ _ _ _ _ ae (@aa _ _ _ _ _ ae (@aa _ _ _ _ _ (aq iU ae ae) (@aa _ _ _ _ _ (aq iU ae ae) (@aa _ _ _ _ _ (aq eY (aq iU ae ae) ae) ag rfl) rfl) rfl) rfl) rfl) rfl)) (aB az hr (@aa _ _ _ _ _ (pv 0) (@aa _ _ _ _ _ ae (@aa _ _ _ _ _ ae ag rfl) rfl) rfl)) (fun _ _=>rfl)) rfl (by trivial)) (aY (aT (aD jH (pv 5) ae (aE _)) (@aj _ _ _ (vS (aq eY (pv 5) (aV (sj rfl) (by rfl) vz boot_sum (@aa _ _ _ _ _ (gT Bx (pv 4) (iS ae) iT) ag rfl))) (zL (pv 4) ae set_list))) aG) (@ai _ _ _ _ _ (@aw _ _ 6 _ _ _ _ bU.nd rfl (by trivial) (aV (sj rfl) (by rfl) vz boot_sum (@aa _ _ _ _ _ (pv 4) ag rfl)) rfl (by trivial)) (@aj _ _ _ (@aC _ _ _ _ (bO bW (by rfl) B.tuple boot_tuple (@aa _ _ _ _ _ (aV LT.wJ (by rfl) B.sorted (by trivial) (@aa _ _ _ _ _ (bR ["_law_k"] [("_law_first",3),("_law_way",1),("_law_weights",4),("_law_total",6)] (fC _ ["_law_weights","_law_way","_law_total","_law_first"]) rfl (by rfl) rfl (by trivial) (by trivial) (aU (by rfl)) (cC (by rfl)) (mC ⟨rfl,rfl⟩ (mC ⟨rfl,rfl⟩ (mC ⟨rfl,rfl⟩ (mC ⟨rfl,rfl⟩ mN)))) (mC rfl (mC rfl (mC rfl (mC rfl mN)))) (bE (by decide)) (bN (by rfl) B.range (@aa _ _ _ _ _ (pv 2) ag rfl)) (fun _ _ _ _=>aM (i:=0) (show(["_law_k","_law_first","_law_way","_law_weights","_law_total"]:List Str).Nodup by trivial) rfl (Or.inl rfl) (Or.inr rfl)) (fun _ _ _ _=>bQ) (fun _ _ _ _=>(@aX _ _ _ _ _ (@aa _ _ _ _ _ (aB bV hr (@aa _ _ _ _ _ (aq bp (aq bg (pv 1) (pv 0)) ae) (@aa _ _ _ _ _ (pv 2) ag rfl) rfl)) (@aa _ _ _ _ _ (aB j8 hr (@aa _ _ _ _ _ (@aH _ _ _ _ _ _ _ (jL (K:=K) rfl) (pv 3) (pv 0) (fun _ _=>rfl)) (@aa _ _ _ _ _ (pv 4) ag rfl) rfl)) ag rfl) rfl)))) ag rfl)) ag rfl)))))))))),?_⟩
 refine⟨_,rfl,z,31,4,rfl,by decide,by decide,fun j1 hj1=>?_⟩;refine⟨_,_,rfl,rfl,?_⟩;refine⟨_,rfl,z,32,6,rfl,by decide,by decide,fun j2 hj2=>?_⟩;refine⟨_,rfl,1+(j1:Int),rfl,by lia,by lia,fun A1 hA1=>?_⟩;rw[show(1+(j1:Int)).toNat=j1+1 by lia];have sA:∀o:HO,ao H (upd H A1 o):=fun o=>ao.upd hA1;refine kJ (n:=j1+1) (lo:=0) (fun i acc H2=>∃ws:List Int,H2=upd H A1 (.lst acc)/\acc=ws.map V.int/\ws.length=i/\∀x∈ws,1<=x/\x<=9) ⟨[],rfl,rfl,rfl,fun _ z=>nomatch z⟩ ?_ ?_
 ·rintro i acc H2 hi ⟨ws,rfl,rfl,lw,hw⟩;rw[show(0:Int)+(i:Int)=((i:Nat):Int) by lia];refine dM ?_;intro kq1 kr1;refine⟨_,rfl,_,rfl,_,_,rfl,rfl,z,33+i,9,rfl,by decide,by lia,fun j hj=>?_⟩;refine⟨_,_,rfl,rfl,af,?_,ws++[1+(j:Int)],?_,?_,?_,fun x hx=>?_⟩
  ·rw[Gh];exact aF (by lia)
  ·rw[aZ]
  ·rw[GK];rfl
  ·rw[Gn,lw];rfl
  ·rcases Gv.mp hx with y|y
   ·exact hw x y
   ·rw[Gk.mp y];lia
 rintro acc H2 ⟨ws,rfl,rfl,lw,hw⟩;refine⟨_,_,rfl,rfl,⟨by decide,by decide,by decide⟩,_,_,rfl,rfl,⟨by decide,by decide,by decide⟩,_,_,rfl,rfl,⟨by decide,by decide,by decide⟩,_,_,rfl,rfl,aK rfl,fun l2 hl2=>?_⟩;refine⟨_,rfl,z,40,6,rfl,by decide,by decide,fun j3 hj3=>?_⟩;obtain⟨sc,hsc,scv⟩:∃sc:Int,atI [V.int 0,V.int 0,V.int 0,V.int ((10:Int)^(9:Int).toNat),V.int ((10:Int)^(60:Int).toNat),V.int ((10:Int)^(60:Int).toNat-33)] ((j3:Nat):Int)=some (.int sc)/\(sc=0\/(100<=sc/\sc<=FIN)):=by
  have hF:FIN=10^60:=by decide+kernel
  have h9:(10:Int)^(9:Int).toNat=1000000000:=by decide+kernel
  have h60:(10:Int)^(60:Int).toNat=FIN:=by decide+kernel
  have hF2:1000000000<=FIN:=by decide+kernel
  rw[h9,h60];rcases (show j3=0\/j3=1\/j3=2\/j3=3\/j3=4\/j3=5 by lia)with e|e|e|e|e|e<;>subst e
  ·exact⟨0,rfl,.inl rfl⟩
  ·exact⟨0,rfl,.inl rfl⟩
  ·exact⟨0,rfl,.inl rfl⟩
  ·exact⟨1000000000,rfl,.inr ⟨by decide,hF2⟩⟩
  ·exact⟨FIN,rfl,.inr ⟨by lia,Int.le_refl _⟩⟩
  ·exact⟨FIN-33,rfl,.inr ⟨by lia,by lia⟩⟩
 refine⟨l2,_,_,_,rfl,rfl,SqL.of af,hsc,?_⟩;have n2:A1≠l2:=fun e=>by rw[<-e,af]at hl2;cases hl2
 have hA2:(upd (upd H A1 (.lst (ws.map V.int))) l2 (.lst [V.int 0,V.int 0,V.int 0,V.int ((10:Int)^(9:Int).toNat),V.int ((10:Int)^(60:Int).toNat),V.int ((10:Int)^(60:Int).toNat-33)])) A1=some (.lst (ws.map V.int)):=by rw[av n2];exact af
 have s2:=(sA (.lst (ws.map V.int))).trans (ao.upd (o:=.lst [V.int 0,V.int 0,V.int 0,V.int ((10:Int)^(9:Int).toNat),V.int ((10:Int)^(60:Int).toNat),V.int ((10:Int)^(60:Int).toNat-33)]) hl2);clear hsc;generalize (upd (upd H A1 (.lst (ws.map V.int))) l2 (.lst [V.int 0,V.int 0,V.int 0,V.int ((10:Int)^(9:Int).toNat),V.int ((10:Int)^(60:Int).toNat),V.int ((10:Int)^(60:Int).toNat-33)]))=H3 at hA2 s2 ⊢;refine⟨fun σ' H'=>∃ws':List Int,σ'=[some (.int z),some (.int w),some (.int (1+(j1:Int))),some (.int (j2:Nat)),some (.ref A1),some (.int sc),none]/\ao H H'/\H' A1=some (.lst (ws'.map V.int))/\ws'.length=j1+1/\(∀x∈ws',0<x)/\ws'.sum<=FIN,?_,?_⟩
 ·refine eI ?_;intro kD2;refine⟨_,rfl,_,_,rfl,rfl,_,rfl,?_⟩;have s9:=pH hw;have hF3:100<=FIN:=by decide+kernel
  refine bf (fun h4=>?_) (fun h4=>?_)
  ·obtain⟨x0,r0,rfl⟩:∃x0 r0,ws=x0::r0:=by
    cases ws with
    |nil=>cases lw
    |cons a b=>exact⟨a,b,rfl⟩
   have h4':0<sc:=GU h4;have r9:=pH fun x hx=>hw x (Gs _ hx);rw[GV]at lw;have e5:jO ((x0::r0).map V.int) (some 1) none=r0.map V.int:=Cs;refine⟨_,rfl,_,rfl,_,rfl,A1,_,rfl,SqL.of hA2,fun p5 hp5=>?_⟩;rw[e5];have n5:A1≠p5:=fun e=>by rw[<-e,hA2]at hp5;cases hp5
   have hA5:(upd H3 p5 (.lst (r0.map V.int))) A1=some (.lst ((x0::r0).map V.int)):=(by rw[av n5];exact hA2);refine⟨p5,r0,rfl,SqL.of af,_,_,rfl,rfl,_,rfl,A1,_,_,0,rfl,rfl,hA5,xy (j:=0) (by simp),?_⟩;refine⟨(sc-r0.sum)::r0,rfl,?_,?_,by rw[GV];exact lw,fun x hx=>?_,?_⟩
   ·exact ao.set hA1 (s2.trans (ao.upd hp5))
   ·rw[af];rfl
   ·rcases GH.mp hx with e|e
    ·rw[e];lia
    ·have:=hw x (Gs _ e);lia
   ·rw[List.sum_cons];lia
  ·exact⟨ws,rfl,s2,hA2,lw,fun x hx=>by have:=hw x hx;lia,by lia⟩
 rintro σ' H4 ⟨ws2,rfl,s4,hA4,lw2,pos2,fin2⟩;refine⟨_,rfl,A1,ws2,rfl,SqL.of hA4,?_⟩;have tpos:0<ws2.sum:=uA pos2 (fun e=>by rw[e]at lw2;cases lw2);have bdT:Bd 8000 ws2.sum:=(Fu (by lia) (by have:FIN<=10000000000000000000000000000000000000000000000000000000000000:=(by decide+kernel);lia)).mono (by decide);refine⟨_,rfl,1+(j1:Int),rfl,by omega,by omega,fun A5 hA5=>?_⟩;rw[show(1+(j1:Int)).toNat=j1+1 by lia];refine kJ (n:=j1+1) (lo:=0) (fun i acc H5=>ao H4 H5/\H5 A5=some (.lst acc)/\Paired (ShE K H5) acc ((wsN w j2 ws2 i).map fun p=>(p.1,frT p.2 ws2.sum,frB p.2 ws2.sum))) ⟨ao.upd hA5,af,.nil⟩ ?_ ?_
 ·rintro i acc H5 hi ⟨s5,h5,pr5⟩;rw[show(0:Int)+(i:Int)=((i:Nat):Int) by omega];refine dM ?_;intro kq3 kr3;have il:i<ws2.length:=by lia
  have hat:atI (ws2.map V.int) ((i:Nat):Int)=some (.int (ws2.getD i 0)):=au (by rw[GX,GB il,List.getD_eq_getElem?_getD,GB il];rfl);have wp:0<ws2.getD i 0:=pos2 _ (by rw[List.getD_eq_getElem?_getD,GB il];exact Ig il);refine⟨_,rfl,_,rfl,_,_,rfl,rfl,_,_,rfl,rfl,(by show(0:Int)<_;decide),_,rfl,(j2+i) % 6,w,rfl,Nat.mod_lt _ (by decide),?_⟩;refine⟨_,rfl,_,rfl,A1,_,_,_,rfl,rfl,SqL.of (s5 _ _ hA4),hat,_,rfl,_,_,rfl,tpos,wp,bdT,fun l6 hl6=>?_⟩;refine⟨aK rfl,fun l7 hl7=>?_⟩;have s7:=(ao.upd (o:=.tup [.int (frT (ws2.getD i 0) ws2.sum),.int (frB (ws2.getD i 0) ws2.sum)]) hl6).trans (ao.upd (o:=.tup [.str (g9 w ((j2+i) % 6)),.ref l6]) hl7);have h7:=s7 _ _ h5;have tk7:=TK.lst (o:=.lst (acc++[.ref l7])) h7;have lacc:acc.length<sizeLine:=by rw[Gw pr5,Gh,wsN,Gh,Hx];exact aF (by lia)
  refine⟨h7,lacc,?_,af,?_⟩
  ·exact fun b o e=>by rw[av (fun z=>by rw[z,hA5]at e;cases e)];exact s7 _ _ (s5 _ _ e)
  ·rw[wsN,Ic,GK,GK];have n67:l6≠l7:=fun e=>by rw[<-e,af]at hl7;cases hl7
   exact Paired.app (Paired.imp (fun _ _ z=>(z.tk s7.tk).tk tk7) pr5) (.cons (ShE.tk tk7 ⟨l7,l6,rfl,SqT.of af,SqT.of (by rw[av n67];exact af)⟩) .nil)
 ·rintro acc H5 ⟨s5,h5,pr5⟩;obtain⟨zs,rfl,en,hz,hp⟩:=vK pr5;have e0:((wsN w j2 ws2 (j1+1)).map fun p=>(p.1,frT p.2 ws2.sum,frB p.2 ws2.sum))=wSh (wsN w j2 ws2 ws2.length):=by
   unfold wSh;rw[wV,lw2]
  rw[e0]at en hp;have enn:zs.map (·.2)=(wsN w j2 ws2 ws2.length).map (·.1):=by rw[en,HR];rfl
  have lz:zs.length=j1+1:=by have:=congrArg List.length enn;rw[Gh,Gh,wsN,Gh,Hx,lw2]at this;exact this
  refine⟨A5,zs,rfl,SqL.of h5,hz,by rw[enn];exact zf (by lia),by lia,fun l8 ys hl8 py so=>?_⟩;obtain⟨S,pm,pS,eS⟩:=hp ys py;refine⟨l8,_,rfl,.inl ⟨SqL.of af,fun l9 hl9=>?_⟩⟩;have s8:=(ao.upd (o:=.lst (ys.map fun z=>V.ref z.1)) hl8).trans (ao.upd (o:=.tup (ys.map fun z=>V.ref z.1)) hl9);refine q l9 S _ (s4.trans (s5.trans s8)) ⟨_,SqT.of af,Paired.imp (fun _ _ z=>z.tk s8.tk) pS⟩ ?_;have tw:iw (wsN w j2 ws2 ws2.length)=ws2.sum:=wV;exact Fn (zf (by omega)) (fun p hp=>(wW pos2 p hp).1) (by rw[tw];exact tpos) (by rw[tw];exact fin2) pm (by rw[eS];exact so) (fun p hp=>(wW pos2 p hp).2)
def og(K:Frag):Sp:=fun vs H Q _=>∃(z w:Int)(c:Nat),vs=[.int z,.int c,.int w]/\c<=1000/\∀(n:Int) H',ao H H'->0<=n->Q (.int n) H'
variable(cS:Df P w K mg base 2 "_law_date" ["_law_cell","_law_salt","_law_way"] (og K))
theorem uE:aA ["_law_cell","_law_salt","_law_way"] ["_law_cell","_law_salt","_law_way"] (ak (top 49)):=by trivial
include B az in
theorem uT(T:Tx K mg "_law_date" (top 49) ["_law_cell","_law_salt","_law_way"]):Df P w K mg base 2 "_law_date" ["_law_cell","_law_salt","_law_way"] (og K):=by
 refine T.df uE (by rintro _ _ _ _ ⟨z,w,c,rfl,hc,q⟩;rfl) ?_;rintro f _ A _ s H _ Q E hr ⟨z,w,c,rfl,hc,q⟩;refine⟨_,(aj (aC (aq cu (aB az hr (aa (pv 0) (aa (pv 1) (aa ae ag)))) (aH bD (cA (aa ae (aa ae ag))) (aq bp (aq cg (pv 2) ae) ae) (fun _ _=>rfl))))),?_⟩;refine⟨_,rfl,_,rfl,z,c,14,rfl,by decide,hc,fun k hk=>?_⟩;refine⟨aK rfl,fun l hl=>?_⟩;have s1:=ao.upd (o:=.lst [V.int 1,V.int 70000000]) hl;have b0:=Hs (w / 20) (show(2:Int)≠0 by decide);have b1:=Hz (w / 20) (show(0:Int)<2 by decide);obtain⟨v,hv,v0⟩:∃v:Int,atI [V.int 1,V.int 70000000] (w / 20 % 2)=some (.int v)/\1<=v:=by
  rcases (show w / 20 % 2=0\/w / 20 % 2=1 by lia)with z|z
  ·rw[z];exact⟨1,rfl,by decide⟩
  ·rw[z];exact⟨70000000,rfl,by decide⟩
 refine⟨_,rfl,_,_,rfl,rfl,⟨by decide,by decide⟩,_,_,rfl,rfl,(by show(0:Int)<_;decide),l,_,_,_,rfl,rfl,SqL.of af,hv,_,_,rfl,rfl,.inl ⟨by lia,by lia⟩,?_⟩;exact q _ _ s1 (Int.mul_nonneg (by omega) (by lia))
def gM(K:Frag):Sp:=fun vs H Q _=>∃(c:Int)(b:Addr)(vs':List V)(rs:List (List Key)),vs=[.int c,.ref b]/\SqL K H b vs'/\Paired (bM K H) vs' rs/\rs.length=13/\∀l C H',ao H H'->bX K H' l C->C.length<=12->(∀r∈C,r∈rs)->((rs.map aN).Nodup->(C.map aN).Nodup)->Q (.ref l) H'
variable(cP:Df P w K mg base 2 "_law_make_column" ["_law_cell","_law_pool"] (gM K))
theorem c5:aA ["_law_cell","_law_pool","_law_many","_law_start","_law_step"] ["_law_cell","_law_pool"] (ak (top 51)):=by trivial
include B az in
theorem lj(T:Tx K mg "_law_make_column" (top 51) ["_law_cell","_law_pool"]):Df P w K mg base 2 "_law_make_column" ["_law_cell","_law_pool"] (gM K):=by
 refine T.df c5 (by rintro _ _ _ _ ⟨c,b,ws,rs,rfl,hb,pr,hl13,q⟩;rfl) ?_;rintro f _ A _ s H _ Q E hr ⟨c,b,ws,rs,rfl,hb,pr,hl13,q⟩;refine aO ?_;intro kX;refine ah 3 (aj (aC (bO bW (by rfl) B.tuple boot_tuple (aa (bR ["_law_k"] [("_law_pool",1),("_law_start",3),("_law_step",4)] (fC _ ["_law_step","_law_start","_law_pool"]) rfl (by rfl) rfl (by trivial) (by trivial) (aU (by rfl)) (cC (by rfl)) (mC ⟨rfl,rfl⟩ (mC ⟨rfl,rfl⟩ (mC ⟨rfl,rfl⟩ mN))) (mC rfl (mC rfl (mC rfl mN))) (bE (by decide)) (bN (by rfl) B.range (aa (pv 2) ag)) (fun _ _ _ _=>aM (i:=0) (show(["_law_k","_law_pool","_law_start","_law_step"]:List Str).Nodup by trivial) rfl (Or.inl rfl) (Or.inr rfl)) (fun _ _ _ _=>bQ) (fun _ _ _ _=>(aH (jL (K:=K) rfl) (pv 1) (aq bp (aq bg (pv 2) (aq cu (pv 0) (pv 3))) ae) (fun _ _=>rfl)))) ag)))) ?_;intro kR3 pR3;refine ah 2 (ai (aw (i:=4) c5.nd rfl (by trivial) (aq bg ae (aB az hr (aa (pv 0) (aa ae (aa ae ag)))))) pR3) ?_;intro kR2 pR2;refine ah 1 (ai (aw (i:=3) c5.nd rfl (by trivial) (aB az hr (aa (pv 0) (aa ae (aa ae ag))))) pR2) ?_;intro kR1 pR1;refine⟨_,(ai (aw (i:=2) c5.nd rfl (by trivial) (aH bD (cA (aa (aB az hr (aa (pv 0) (aa ae (aa ae ag)))) (aa ae (aa ae ag)))) (aV (yU rfl) (by rfl) B.max boot_max (aa ae (aa (aq eY (aB az hr (aa (pv 0) (aa ae (aa ae ag)))) ae) ag))) (fun _ _=>rfl))) pR1),?_⟩;have lw:ws.length=rs.length:=Gw pr;refine⟨_,rfl,c,91,5,rfl,by decide,by decide,fun j1 hj1=>?_⟩;refine⟨aK rfl,fun l1 hl1=>?_⟩;have s1:=ao.upd (o:=.lst [V.int (j1:Nat),V.int 12,V.int 11]) hl1;refine⟨_,rfl,c,92,8,rfl,by decide,by decide,fun j2 hj2=>?_⟩;refine⟨_,_,rfl,rfl,_,_,rfl,?_⟩;obtain⟨n,hn,n12⟩:∃n:Nat,atI [V.int (j1:Nat),V.int 12,V.int 11] (if((j2:Nat):Int)-5>0 then((j2:Nat):Int)-5 else 0)=some (.int n)/\n<=12:=by
  rcases (show j2<=5\/j2=6\/j2=7 by lia)with z|z|z
  ·rw[Gu (by lia)];exact⟨j1,rfl,by lia⟩
  ·subst z;exact⟨12,rfl,by decide⟩
  ·subst z;exact⟨11,rfl,by decide⟩
 refine⟨l1,_,_,_,rfl,rfl,SqL.of af,hn,?_⟩;have hb1:=s1.seq hb;have pr1:=Paired.imp (fun _ _=>bM.tk s1.tk) pr;generalize (upd H l1 (.lst [V.int (j1:Nat),V.int 12,V.int 11]))=H1 at s1 hb1 pr1 ⊢;refine⟨_,rfl,c,93,13,rfl,by decide,by decide,fun j3 hj3=>?_⟩;refine⟨_,rfl,c,94,12,rfl,by decide,by decide,fun j4 hj4=>?_⟩;refine⟨_,_,rfl,rfl,?_⟩;refine⟨_,rfl,n,rfl,by lia,by lia,fun A1 hA1=>?_⟩;rw[show((n:Int)).toNat=n by lia];have sA:∀o:HO,ao H1 (upd H1 A1 o):=fun o=>ao.upd hA1;refine kJ (n:=n) (lo:=0) (fun i acc H2=>∃C:List (List Key),H2=upd H1 A1 (.lst acc)/\Paired (bM K H1) acc C/\C.length=i/\(∀r∈C,r∈rs)/\∀t,t<i->C[t]?=rs[(j3+t*(1+j4)) % 13]?) ⟨[],rfl,.nil,rfl,(fun _ z=>nomatch z),fun _ z=>absurd z (Nat.not_lt_zero _)⟩ ?_ ?_
 ·rintro i acc H2 hi ⟨C,rfl,pC,lC,sub,ix⟩;refine dM ?_;intro kq1 kr1;have m0:=Hs (((j3:Nat):Int)+(0+(i:Int))*(1+((j4:Nat):Int))) (show(13:Int)≠0 by decide);have m1:=Hz (((j3:Nat):Int)+(0+(i:Int))*(1+((j4:Nat):Int))) (show(0:Int)<13 by decide);obtain⟨t,ht⟩:∃t:Nat,(((j3:Nat):Int)+(0+(i:Int))*(1+((j4:Nat):Int))) % 13=(t:Nat):=⟨_,(Int.toNat_of_nonneg m0).symm⟩;have tl:t<ws.length:=by lia
  obtain⟨r,hr,hbr⟩:=aQ pr1 (i:=t) (x:=ws[t]'tl) (by simp);have hat:atI ws ((((j3:Nat):Int)+(0+(i:Int))*(1+((j4:Nat):Int))) % 13)=some (ws[t]'tl):=by rw[ht];exact au (by simp)
  refine⟨_,rfl,_,rfl,_,rfl,_,rfl,_,_,rfl,rfl,.inl ⟨by lia,by lia⟩,_,_,rfl,rfl,_,_,rfl,rfl,(by show(0:Int)<_;decide),b,_,_,_,rfl,rfl,(sA _).seq hb1,hat,af,?_,?_⟩
  ·rw[Gw pC];exact aF (by lia)
  ·refine⟨C++[r],by rw[aZ],Paired.app pC (.cons hbr .nil),by rw[Gn,lC];rfl,fun x hx=>?_,fun t' ht'=>?_⟩;rcases Gv.mp hx with z|z
   ·exact sub x z
   ·rw[Gk.mp z];exact Gp hr
   rcases Nat.lt_or_ge t' i with y|y
   ·rw[Ia (by lia)];exact ix t' y
   ·have e:t'=i:=(by lia);subst e;have et:(j3+t'*(1+j4)) % 13=t:=by
     rw[Int.zero_add]at ht
     exact_mod_cast ht
    rw[List.getElem?_append_right (by lia),lC,Nat.sub_self,et,hr];rfl
 ·rintro acc H2 ⟨C,rfl,pC,lC,sub,ix⟩;refine⟨A1,_,rfl,.inl ⟨SqL.of af,fun l2 hl2=>?_⟩⟩;have s2:=(sA (.lst acc)).trans (ao.upd (o:=.tup acc) hl2);refine q l2 C _ (s1.trans s2) ⟨fun r hr k hk=>?_,acc,SqT.of af,?_⟩ (by lia) sub (fun nd=>Ej nd hl13 lC (by lia) ⟨by lia,by lia⟩ ix)
  ·obtain⟨v,_,hv⟩:∃v,v∈acc/\bM K H1 v r:=by
    have:∀{xs:List V}{D:List (List Key)},Paired (bM K H1) xs D->r∈D->∃v,v∈xs/\bM K H1 v r:=by
     intro xs D p
     induction p with
     |nil=>intro h;cases h
     |cons a _ ih=>
      intro h;rcases GH.mp h with e|e
      ·subst e;exact⟨_,Gy ..,a⟩
      ·obtain⟨v,h1,h2⟩:=ih e;exact⟨v,Gs _ h1,h2⟩
    exact this pC hr
   exact hv.1 k hk
  ·exact Paired.imp (fun _ _ z=>(z.tk s2.tk).2) pC
def jv(K:Frag):Sp:=fun vs H Q _=>∃(l:Addr)(xs:List V)(gs:List Nat)(c:Nat),vs=[.ref l,.int c]/\(SqL K H l xs\/SqT K H l xs)/\Paired (HdE K H) xs gs/\c<=64/\Q (cW xs gs c) H
variable(cR:Df P w K mg base 2 "_law_plot_of" ["_law_plots","_law_cell"] (jv K))
theorem jB:aA ["_law_plots","_law_cell","_law_plot"] ["_law_plots","_law_cell"] (ak (top 55)):=by trivial
include B aS in
theorem qc(T:Tx K mg "_law_plot_of" (top 55) ["_law_plots","_law_cell"]):Df P w K mg base 2 "_law_plot_of" ["_law_plots","_law_cell"] (jv K):=by
 refine T.df jB (by rintro _ _ _ _ ⟨l,xs,gs,c,rfl,hl,pr,hc,q⟩;rfl) ?_;rintro f _ A _ s H _ Q E hr ⟨l,xs,gs,c,rfl,hl,pr,hc,q⟩;refine aO ?_;intro kX;refine ah 1 (aj (aC cL)) ?_;intro kR1 pR1;refine⟨_,(ai (cq GW rfl (zK (pv 0)) (aM (i:=2) jB.nd rfl (by trivial)) (aj (aT (dE (aB aS hr (aa (aH aL (pv 2) ae (fun _ _=>rfl)) (aa (pv 1) ag)))) (aj (aC (pv 2))) aG))) pR1),?_⟩;rcases hl with hl|hl
 ·refine .inl ⟨_,rfl,l,rfl,⟨_,hl⟩,eJ (K:=K) (a:=l) (xs:=xs) (fun i σ H2=>∃o2:Option V,σ=[some (.ref l),some (.int c),o2]/\H2=H/\cW xs gs c=cW (xs.drop i) (gs.drop i) c) ⟨none,rfl,rfl,rfl⟩ (fun i σ H2 _ hPz=>hPz.elim fun _ hPz=>(fun e=>by rw[e];exact hl) (hPz.2.1)) ?_ ?_⟩
  ·rintro i y σ H2 hi ⟨o2,rfl,rfl,e⟩;refine dw ?_;intro kD1;obtain⟨g,hg,r,rest,rfl,h1⟩:=aQ pr hi;rw[iX hi hg]at e;refine⟨_,rfl,r,_,_,_,rfl,rfl,h1,(au (j:=0) rfl),_,rfl,g,c,rfl,hc,_,rfl,?_⟩;refine bf (fun h2=>?_) (fun h2=>?_)
   ·rw[Gz h2]at e;refine⟨_,rfl,?_⟩;rw[e]at q;exact q
   ·rw[Gu h2]at e;exact⟨_,rfl,rfl,e⟩
  ·rintro σ H2 ⟨o2,rfl,rfl,e⟩;rw[List.drop_length]at e;have e2:cW xs gs c=.non:=(by rw[e];rfl);rw[e2]at q;exact q
 ·refine .inr ⟨_,rfl,l,rfl,⟨_,hl⟩,gv (K:=K) (a:=l) (xs:=xs) (fun i σ H2=>∃o2:Option V,σ=[some (.ref l),some (.int c),o2]/\H2=H/\cW xs gs c=cW (xs.drop i) (gs.drop i) c) ⟨none,rfl,rfl,rfl⟩ (fun i σ H2 _ hPz=>hPz.elim fun _ hPz=>(fun e=>by rw[e];exact hl) (hPz.2.1)) ?_ ?_⟩
  ·rintro i y σ H2 hi ⟨o2,rfl,rfl,e⟩;refine dw ?_;intro kD2;obtain⟨g,hg,r,rest,rfl,h1⟩:=aQ pr hi;rw[iX hi hg]at e;refine⟨_,rfl,r,_,_,_,rfl,rfl,h1,(au (j:=0) rfl),_,rfl,g,c,rfl,hc,_,rfl,?_⟩;refine bf (fun h2=>?_) (fun h2=>?_)
   ·rw[Gz h2]at e;refine⟨_,rfl,?_⟩;rw[e]at q;exact q
   ·rw[Gu h2]at e;exact⟨_,rfl,rfl,e⟩
  ·rintro σ H2 ⟨o2,rfl,rfl,e⟩;rw[List.drop_length]at e;have e2:cW xs gs c=.non:=(by rw[e];rfl);rw[e2]at q;exact q
def rH(K:Frag):Sp:=fun vs H Q _=>∃(z:Int)(l:Addr)(xs:List V)(ps:List Plt)(m:Nat),vs=[.int z,.ref l,.int m]/\SqL K H l xs/\Paired (PlE K H) xs ps/\(∀p∈ps,(plD p).canLay0=true)/\(∀p∈ps,p.g≠0/\p.g<2^m)/\ps.length<=8/\(0<m/\m<=64)/\∀(c:Nat) H',c<m->ao H H'->Q (.int c) H'
variable(m5:Df P w K mg base 2 "_law_at" ["_law_cell","_law_plots","_law_many"] (rH K))
theorem nh:aA ["_law_cell","_law_plots","_law_many","_law_plot","_law_some"] ["_law_cell","_law_plots","_law_many"] (ak (top 56)):=by trivial
include B az aS in
theorem yp(T:Tx K mg "_law_at" (top 56) ["_law_cell","_law_plots","_law_many"]):Df P w K mg base 2 "_law_at" ["_law_cell","_law_plots","_law_many"] (rH K):=by
 refine T.df nh (by rintro _ _ _ _ ⟨z,l,xs,ps,m,rfl,hl,pp,ly,hg,l8,⟨m0,m64⟩,q⟩;rfl) ?_;rintro f _ A _ s H _ Q E hr ⟨z,l,xs,ps,m,rfl,hl,pp,ly,hg,l8,⟨m0,m64⟩,q⟩;have hu:=hr.units;refine aO ?_;intro kX;refine ah 3 (aj (aC (aH bD (pv 4) (aB az hr (aa (pv 0) (aa ae (aa (aV bo (by rfl) B.len Hw (aa (pv 4) ag)) ag)))) (fun _ _=>rfl)))) ?_;intro kR3 pR3;refine ah 2 (ai (jQ (i:=4) nh.nd rfl (by trivial) ["_law_k"] [("_law_plot",3)] (fC _ ["_law_plot"]) rfl (by rfl) rfl (by trivial) (by trivial) (aU (by rfl)) (cC (by rfl)) (mC ⟨rfl,rfl⟩ mN) (mC rfl mN) (bE (by decide)) (bN (by rfl) B.range (aa (pv 2) ag)) (fun _ _ _ _=>aM (i:=0) (show(["_law_k","_law_plot"]:List Str).Nodup by trivial) rfl (Or.inl rfl) (Or.inr rfl)) (fun _ _ _ _=>iH (dE (aB aS hr (aa (aH (fN (K:=K) rfl) (pv 1) ae (fun _ _=>rfl)) (aa (pv 0) ag))))) (fun _ _ _ _=>(pv 0))) pR3) ?_;intro kR2 pR2;refine ah 1 (ai (aw (i:=3) nh.nd rfl (by trivial) (aH bD (pv 1) (aB az hr (aa (pv 0) (aa ae (aa (aV bo (by rfl) B.len Hw (aa (pv 1) ag)) ag)))) (fun _ _=>rfl))) pR2) ?_;intro kR1 pR1;refine⟨_,(ai (aT ((mB (aD (DG hu) (pv 1) (cA ag) (aE _)) (kP (aD cj (aB az hr (aa (pv 0) (aa ae (aa ae ag)))) ae (aE _)))).pt) (aj (aC (aB az hr (aa (pv 0) (aa ae (aa (pv 2) ag)))))) aG) pR1),?_⟩;have lx:=Gw pp;refine⟨_,rfl,aK rfl,fun e he=>?_⟩;have s1:=ao.upd (o:=.lst []) he;have he1:(upd H e (.lst [])) e=some (.lst []):=af;generalize (upd H e (.lst []))=H1 at s1 he1 ⊢;have hl1:=s1.seq hl;have pp1:=Paired.imp (fun _ _ y=>PlE.tk s1.tk y) pp;refine⟨.list (ps.map plD),.list [],.lst hl1 (pZ pp1),.lst (SqL.of he1) .nil,mE ly,rfl,GP rfl,_,rfl,?_⟩;refine bf (fun h1=>⟨_,rfl,_,rfl,z,97,m,rfl,m0,by decide,fun k hk=>q k _ hk s1⟩) (fun h1=>?_);have ne:ps≠[]:=fun y=>h1 (by subst y;rfl);have pos:0<ps.length:=List.length_pos_iff.mpr ne;refine⟨_,rfl,z,96,8,rfl,by decide,by decide,fun j hj=>⟨rfl,_,rfl,?_⟩⟩;refine bf (fun h2=>⟨_,rfl,_,rfl,z,97,m,rfl,m0,by decide,fun k hk=>q k _ hk s1⟩) (fun h2=>?_);refine⟨_,rfl,_,rfl,_,rfl,l,xs,rfl,.inl hl1,z,98,xs.length,rfl,by lia,by decide,fun k hk=>?_⟩;obtain⟨p,hp,r,ls,lr,ev,r1,r2,r3⟩:=aQ pp1 (GB hk);obtain⟨g0,gm⟩:=hg p (Gp hp);refine⟨l,_,_,_,rfl,rfl,hl1,au (GB hk),?_⟩;rw[ev];refine⟨_,rfl,m,rfl,by lia,by lia,fun A hA=>?_⟩;have sA:∀o:HO,ao H1 (upd H1 A o):=fun o=>ao.upd hA;have lf:∀i,i<=m->((List.range i).filter p.g.testBit).length<=64:=fun i hi=>G0 (HS _ _) (by rw[Hx];lia);rw[Hg];refine kJ (n:=m) (lo:=0) (fun i acc H2=>H2=upd H1 A (.lst acc)/\acc=NV ((List.range i).filter p.g.testBit)) ⟨rfl,rfl⟩ ?_ ?_
 ·rintro i acc H2 hi ⟨rfl,rfl⟩;rw[show(0:Int)+(i:Int)=((i:Nat):Int) by omega];refine dM ?_;intro kq1 kr1;refine⟨_,rfl,r,_,_,_,rfl,rfl,(sA _).tup r1,au (j:=0) rfl,_,rfl,p.g,i,rfl,by lia,_,rfl,?_⟩;refine bf (fun h3=>?_) (fun h3=>⟨rfl,?_⟩)
  ·refine⟨_,rfl,af,?_,by rw[aZ],?_⟩
   ·rw[Gh];exact aF (by have:=lf i (by lia);lia)
   ·rw[Ic,Hy,fK];simp[h3]
  ·rw[Ic,Hy,fK];simp[h3]
 rintro acc H2 ⟨rfl,rfl⟩;have posF:0<((List.range m).filter p.g.testBit).length:=by have b1:LM.cb p.g<m:=f9 gm m64 g0;have:LM.cb p.g∈(List.range m).filter p.g.testBit:=HK.mpr ⟨G7.mpr b1,(cM (Gx gm (Hb (by decide) m64)) g0).1⟩;exact List.length_pos_of_mem this
 refine⟨_,rfl,_,rfl,_,rfl,A,_,rfl,.inl (SqL.of af),z,99,(NV ((List.range m).filter p.g.testBit)).length,rfl,by rw[Gh];exact posF,by decide,fun k hk=>?_⟩;rw[Gh]at hk;refine⟨A,_,_,_,rfl,rfl,SqL.of af,au (by rw[GX,GB hk];rfl),q _ _ ?_ (s1.trans (sA _))⟩;exact G7.mp (HK.mp (Ig hk)).1
def gI(K:Frag):Sp:=fun vs H Q _=>∃(z w:Int),vs=[.int z,.int w]/\∀l ss H',ao H H'->SqT K H' l (SV ss)->(∀x∈ss,PyData.canLay0 (.str x)=true)->Q (.ref l) H'
variable(dO:Df P w K mg base 2 "_law_make_signed" ["_law_cell","_law_way"] (gI K))
theorem eX:aA ["_law_cell","_law_way","_law_some"] ["_law_cell","_law_way"] (ak (top 57)):=by trivial
include B az bV aS in
theorem kZ(T:Tx K mg "_law_make_signed" (top 57) ["_law_cell","_law_way"]):Df P w K mg base 2 "_law_make_signed" ["_law_cell","_law_way"] (gI K):=by
 refine T.df eX (by rintro _ _ _ _ ⟨z,w,rfl,q⟩;rfl) ?_;rintro f _ A _ s H _ Q E hr ⟨z,w,rfl,q⟩;refine aO ?_;intro kX;refine ah 2 (aj (aC (bO bW (by rfl) B.tuple boot_tuple (aa (bR ["_law_k"] [("_law_way",1),("_law_some",2)] (fC _ ["_law_way","_law_some"]) rfl (by rfl) rfl (by trivial) (by trivial) (aU (by rfl)) (cC (by rfl)) (mC ⟨rfl,rfl⟩ (mC ⟨rfl,rfl⟩ mN)) (mC rfl (mC rfl mN)) (bE (by decide)) (bN (by rfl) B.range (aa ae ag)) (fun _ _ _ _=>aM (i:=0) (show(["_law_k","_law_way","_law_some"]:List Str).Nodup by trivial) rfl (Or.inl rfl) (Or.inr rfl)) (fun _ _ _ _=>iH (dE (aB aS hr (aa (pv 2) (aa (pv 0) ag))))) (fun _ _ _ _=>(aB bV hr (aa (pv 0) (aa (pv 1) ag))))) ag)))) ?_;intro kR2 pR2;refine ah 1 (aY (aT (aD cj (aB az hr (aa (pv 0) (aa ae (aa ae ag)))) ae (aE _)) (aj (aw (i:=2) eX.nd rfl (by trivial) (aB az hr (aa (pv 0) (aa ae (aa ae ag)))))) aG) pR2) ?_;intro kR1 pR1;refine⟨_,(ai (aw (i:=2) eX.nd rfl (by trivial) ae) pR1),?_⟩;refine⟨fun σ' H'=>∃m:Nat,σ'=[some (.int z),some (.int w),some (.int m)]/\H'=H,?_,?_⟩
 ·refine eI ?_;intro kD1;refine⟨_,rfl,z,2,4,rfl,by decide,by decide,fun j hj=>⟨rfl,_,rfl,?_⟩⟩;refine bf (fun h1=>?_) (fun h1=>⟨63,rfl,rfl⟩);exact⟨_,rfl,z,3,64,rfl,by decide,by decide,fun m hm=>⟨m,rfl,rfl⟩⟩
 rintro σ' H' ⟨m,rfl,rfl⟩;refine⟨6,rfl,by decide,by decide,fun A hA=>?_⟩;refine kJ (n:=6) (lo:=0) (fun i acc H2=>H2=upd H' A (.lst acc)/\∃ss,acc=SV ss/\ss.length<=i/\∀x∈ss,PyData.canLay0 (.str x)=true) ⟨rfl,[],rfl,Gr _,fun _ y=>nomatch y⟩ ?_ ?_
 ·rintro i acc H2 hi ⟨rfl,ss,rfl,ls,lay⟩;rw[show(0:Int)+(i:Int)=((i:Nat):Int) by omega];refine dM ?_;intro kq2 kr2;refine⟨_,rfl,_,rfl,m,i,rfl,by lia,_,rfl,?_⟩;refine bf (fun h1=>?_) (fun h1=>⟨rfl,ss,rfl,by lia,lay⟩);refine⟨_,rfl,_,rfl,i,w,rfl,hi,af,?_,by rw[aZ],ss++[g9 w i],by simp[SV],by rw[Gn,HC];lia,fun x hx=>?_⟩
  ·rw[show(SV ss).length=ss.length from Gh _];exact aF (by lia)
  ·rcases Gv.mp hx with y|y
   ·exact lay x y
   ·rw[Gk.mp y];exact(tR hi).1.lay
 rintro acc H2 ⟨rfl,ss,rfl,ls,lay⟩;refine⟨A,_,rfl,.inl ⟨SqL.of af,fun l hl=>?_⟩⟩;exact q l ss _ ((ao.upd hA).trans (ao.upd hl)) (SqT.of af) lay
def jy(K:Frag):Sp:=fun vs H Q _=>∃(v:V)(p:Plt)(f:Nat->Option Col),vs=[v]/\PlE K H v p/\bq f p.R/\(∀i,64<=i->f i=none)/\∀(d:Addr)(kvs:List (Key×V))(ks:List Nat) H',ao H H'->H d=none->H' d=some (.dK kvs)->GD K H' kvs f->(kvs.map fun q=>kV q.1)=NV ks->ks.Pairwise (·<·)->(∀i,i∈ks<->(f i).isSome=true)->(∀i∈ks,i<64)->Q (.ref d) H'
variable(fS:Df P w K mg base 2 "_law_by_cell" ["_law_plot"] (jy K))
theorem dS:aA ["_law_plot","_law_columns","_law_k","_law_cells","_law_column"] ["_law_plot"] (ak (top 61)):=by trivial
include B aS in
theorem qf(T:Tx K mg "_law_by_cell" (top 61) ["_law_plot"]):Df P w K mg base 2 "_law_by_cell" ["_law_plot"] (jy K):=by
 refine T.df dS (by rintro _ _ _ _ ⟨v,p,f,rfl,hp,hf,f64,q⟩;rfl) ?_;rintro f _ A _ s H _ Q E hr ⟨v,p,f,rfl,hp,hf,f64,q⟩;have hu:=hr.units;refine aO ?_;intro kX;refine ah 2 (aj (aC (pv 1))) ?_;intro kR2 pR2;refine ah 1 (ai (cq GW rfl (bN (by rfl) B.range (aa ae ag)) (aM (i:=2) dS.nd rfl (by trivial)) (aj (cq GW rfl (eF (aH aL (pv 0) ae (fun _ _=>rfl))) (nq rfl (cV (aM (i:=3) dS.nd rfl (by trivial)) (cV (aM (i:=4) dS.nd rfl (by trivial)) jS))) (aj (aT (dE (aB aS hr (aa (pv 3) (aa (pv 2) ag)))) (aj (mD (kG hr) (pv 1) (pv 2) (pv 4) rfl)) aG))))) pR2) ?_;intro kR1 pR1;refine⟨_,(ai (aw (i:=1) dS.nd rfl (by trivial) mF) pR1),?_⟩;obtain⟨l,ls,lr,rfl,h1,h2,xs,hl,pr⟩:=hp;intro d hd;have sd:∀o:HO,ao H (upd H d o):=fun o=>ao.upd hd;refine⟨64,rfl,by decide,by decide,gE (n:=64) (lo:=0) (fun k σ H2=>∃(o2 o3 o4:Option V)(kvs:List (Key×V)),σ=[some (.ref l),some (.ref d),o2,o3,o4]/\H2=upd H d (.dK kvs)/\GD K H kvs (fun i=>if i<k then f i else none)/\(kvs.map fun q=>kV q.1)=NV ((List.range k).filter fun i=>(f i).isSome)) ⟨none,none,none,[],rfl,rfl,?_,rfl⟩ ?_ ?_⟩
 ·have e:(fun i=>if i<0 then f i else none)=fun _=>none:=funext fun i=>Gu (Nat.not_lt_zero _);rw[e];exact GD.nil
 ·rintro k σ H2 hk ⟨o2,o3,o4,kvs,rfl,rfl,gd,ek⟩;rw[show(0:Int)+(k:Int)=((k:Nat):Int) by omega];refine dw ?_;intro kD1;have lk:kvs.length<=64:=by
   have:=congrArg List.length ek;rw[Gh,Gh]at this;rw[this];exact G0 (HS _ _) (by rw[Hx];omega)
  have v0:fo kvs (.inl (k:Int))=none:=by
   rcases gd k with y|⟨_,c,_,e,_⟩
   ·exact y.1
   ·have e':(if k<k then f k else none)=some c:=e;rw[Gu (HW _)]at e';cases e'
  refine⟨_,rfl,l,_,_,_,rfl,rfl,(sd _).tup h1,au (j:=2) rfl,lr,rfl,⟨_,(sd _).tup hl⟩,gv (K:=K) (a:=lr) (xs:=xs) (fun j σ H2=>∃(o3 o4:Option V)(kvs':List (Key×V)),σ=[some (.ref l),some (.ref d),some (.int (k:Nat)),o3,o4]/\H2=upd H d (.dK kvs')/\(((∀q0∈p.R.take j,¬q0.1.testBit k=true)/\kvs'=kvs)\/∃q0 b,q0∈p.R.take j/\q0.1.testBit k=true/\bX K H b q0.2/\kvs'=putK kvs (.inl (k:Int)) (.ref b))) ⟨o3,o4,kvs,rfl,rfl,(.inl ⟨(fun _ z=>nomatch z),rfl⟩)⟩ (fun j σ H2 _ hPz=>hPz.elim fun _ hPz=>hPz.elim fun _ hPz=>hPz.elim fun _ hPz=>(fun e=>by rw[e];exact(sd _).tup hl) (hPz.2.1)) ?_ ?_⟩
  ·rintro j y σ H2 hj ⟨o3',o4',kvs',rfl,rfl,hk'⟩;refine dw ?_;intro kD2;obtain⟨q0,hq0,r1,b,rfl,hr1,hb⟩:=aQ pr hj;have qin:=Gp hq0;have tk1:p.R.take (j+1)=p.R.take j++[q0]:=(by rw[GF,hq0];rfl);refine⟨r1,_,rfl,(sd _).tup hr1,rfl,_,_,rfl,_,_,rfl,rfl,?_⟩;refine⟨_,rfl,_,rfl,q0.1,k,rfl,by omega,_,rfl,?_⟩;refine bf (fun z=>?_) (fun z=>?_)
   ·have old:(∀q0∈p.R.take j,¬q0.1.testBit k=true)/\kvs'=kvs:=by
     rcases hk' with y|⟨q1,b1,m1,z1,_⟩
     ·exact y
     ·exfalso;have nd:=hf.nd;rw[<-List.take_append_drop j p.R,GK,List.nodup_append]at nd;have hd1:q0∈p.R.drop j:=by
       rw[jZ hq0];exact Gy ..
      have e1:=((hf.ok q1 (Ii m1)).2.2 k hk).mp z1;have e2:=((hf.ok q0 qin).2.2 k hk).mp z;rw[e1]at e2;exact nd.2.2 q1.2 (Gm.mpr ⟨q1,m1,rfl⟩) q0.2 (Gm.mpr ⟨q0,hd1,rfl⟩) (G2 e2)
    obtain⟨o1,rfl⟩:=old;refine⟨_,rfl,_,rfl,_,rfl,d,_,rfl,uw.k (k:=.inl (k:Int)) af (aF (by lia)),?_⟩;exact⟨_,_,_,rfl,by rw[aZ],.inr ⟨q0,b,by rw[tk1];exact GQ _ (Gk.mpr rfl),z,hb,rfl⟩⟩
   ·refine⟨_,_,kvs',rfl,rfl,?_⟩;rcases hk' with⟨y1,y2⟩|⟨q1,b1,m1,z1,y⟩
    ·refine .inl ⟨fun x hx=>?_,y2⟩;rw[tk1]at hx;rcases Gv.mp hx with w|w
     ·exact y1 x w
     ·rw[Gk.mp w];exact z
    ·exact .inr ⟨q1,b1,by rw[tk1];exact GI _ m1,z1,y⟩
  ·rintro σ H2 ⟨o3',o4',kvs',rfl,rfl,hk'⟩;rw[Gw pr,GL]at hk';rcases hk' with⟨y1,rfl⟩|⟨q0,b,m1,z1,hb,rfl⟩
   ·have fk:f k=none:=by
     cases e:f k with
     |none=>rfl
     |some c=>obtain⟨q0,hq0,e2⟩:=Gm.mp (hf.all k c hk e);exact absurd (((hf.ok q0 hq0).2.2 k hk).mpr (by rw[e,e2])) (y1 q0 hq0)
    refine⟨_,_,_,kvs',rfl,rfl,?_,?_⟩
    ·have e:(fun i=>if i<k+1 then f i else none)=fun i=>if i<k then f i else none:=funext fun i=>by
      by_cases y:i=k
      ·subst y;rw[Gz (by omega),Gu (by lia),fk]
      ·have:i<k+1<->i<k:=⟨fun _=>by lia,fun _=>by lia⟩;simp only[this]
     rw[e];exact gd
    ·rw[Ic,Hy,fK,ek];simp[fk]
   ·have fk:=((hf.ok q0 m1).2.2 k hk).mp z1;refine⟨_,_,_,_,rfl,rfl,?_,?_⟩
    ·have e:(fun i=>if i<k+1 then f i else none)=fun i=>if i=k then some q0.2 else(if i<k then f i else none):=funext fun i=>by
      by_cases y:i=k
      ·subst y;rw[Gz (by omega),Gz rfl,fk]
      ·have:i<k+1<->i<k:=⟨fun _=>by omega,fun _=>by omega⟩;rw[Gu y];simp only[this]
     rw[e];exact GD.put gd hb
    ·rw[uH _ v0,GK,ek,Ic,Hy,fK];simp[fk,kV]
 ·rintro σ H2 ⟨o2,o3,o4,kvs,rfl,rfl,gd,ek⟩;have e:(fun i=>if i<64 then f i else none)=f:=funext fun i=>by
   by_cases y:i<64
   ·rw[Gz y]
   ·rw[Gu y,f64 i (by lia)]
  rw[e]at gd;refine⟨_,rfl,q d kvs _ _ (sd _) hd af (gd.tk (sd _).tk) ek (List.Pairwise.filter _ List.pairwise_lt_range) (fun i=>?_) (fun i hi=>G7.mp (HK.mp hi).1)⟩;rw[HK,G7];refine⟨fun y=>y.2,fun y=>⟨?_,y⟩⟩;by_cases w:i<64
  ·exact w
  ·rw[f64 i (by omega)]at y;cases y
def gG(K:Frag):Sp:=fun vs H Q _=>∃(z:Int)(c:Nat)(v:V)(w h:Nat),vs=[.int z,.int c,v,.int w,.int h]/\c<=64/\(v=.non\/∃p,PlE K H v p)/\(0<w/\w<=8/\0<h/\h<=8)/\∀g:Int,Q (.int g) H
variable(dN:Df P w K mg base 2 "_law_told_ground" ["_law_cell","_law_at_here","_law_plot","_law_wide","_law_high"] (gG K))
theorem eW:aA ["_law_cell","_law_at_here","_law_plot","_law_wide","_law_high","_law_kind","_law_ground"] ["_law_cell","_law_at_here","_law_plot","_law_wide","_law_high"] (ak (top 64)):=by trivial
include B az in
theorem kW(T:Tx K mg "_law_told_ground" (top 64) ["_law_cell","_law_at_here","_law_plot","_law_wide","_law_high"]):Df P w K mg base 2 "_law_told_ground" ["_law_cell","_law_at_here","_law_plot","_law_wide","_law_high"] (gG K):=by
 refine T.df eW (by rintro _ _ _ _ ⟨z,c,v,w,h,rfl,hc,hv,⟨hw,hw8,hh,hh8⟩,q⟩;rfl) ?_;rintro f _ A _ s H _ Q E hr ⟨z,c,v,w,h,rfl,hc,hv,⟨hw,hw8,hh,hh8⟩,q⟩;refine aO ?_;intro kX;refine ah 4 (aj (aC (aq xn (pv 6) (aq f7 ae (pv 1))))) ?_;intro kR4 pR4;refine ah 3 (ai (aw (i:=6) eW.nd rfl (by trivial) (aq zT (aH aL (pv 2) ae (fun _ _=>rfl)) (aq f7 ae (aB az hr (aa (pv 0) (aa ae (aa (aq cu (pv 3) (pv 4)) ag))))))) pR4) ?_;intro kR3 pR3;refine ah 2 (ai (aT (aD rS (pv 5) ae (aE _)) (aj (aC (aH aL (pv 2) ae (fun _ _=>rfl)))) aG) pR3) ?_;intro kR2 pR2;refine ah 1 (ai (aT ((mB (aD rS (pv 5) ae (aE _)) (kP (aD ig (pv 2) cL (aE _)))).pt) (aj (aC ae)) aG) pR2) ?_;intro kR1 pR1;refine⟨_,(ai (aw (i:=5) eW.nd rfl (by trivial) (aB az hr (aa (pv 0) (aa ae (aa ae ag))))) pR1),?_⟩;have hwh:w*h<=64:=Nat.mul_le_mul hw8 hh8;have hwp:0<w*h:=Nat.mul_pos hw hh;have e1:((w:Int)*(h:Int))=((w*h:Nat):Int):=by simp
 refine⟨_,rfl,z,104,6,rfl,by decide,by decide,fun k hk=>?_⟩;refine⟨_,rfl,_,_,rfl,rfl,_,rfl,?_⟩;refine bf (fun h1=>q 0) (fun h1=>?_);rcases hv with rfl|⟨p,hp⟩
 ·exact⟨_,rfl,rfl,_,rfl,ip (q 0)⟩
 obtain⟨l,l1',lr,rfl,p1,p2,p3⟩:=hp;refine⟨_,rfl,rfl,_,rfl,eZ ?_⟩;refine⟨_,rfl,_,_,rfl,rfl,_,rfl,?_⟩;refine bf (fun h2=>⟨_,rfl,l,_,_,_,rfl,rfl,p1,au (j:=0) rfl,q _⟩) (fun h2=>?_);refine⟨_,rfl,l,_,_,_,rfl,rfl,p1,au (j:=0) rfl,_,rfl,_,rfl,_,rfl,_,_,rfl,rfl,.inl ⟨by lia,by lia⟩,z,105,w*h,congrArg (fun x=>[V.int z,V.int 105,V.int x]) e1,hwp,by decide,fun j hj=>?_⟩;refine⟨_,_,rfl,rfl,⟨by omega,by lia,by decide⟩,_,_,rfl,rfl,?_⟩;exact⟨_,rfl,_,rfl,_,_,rfl,rfl,⟨by omega,by omega,by decide⟩,_,_,rfl,rfl,q _⟩
def iA(K:Frag):Sp:=fun vs H Q _=>∃(z:Int)(v:V)(b:Addr)(ws:List V)(rs:List (List Key)),vs=[.int z,v,.ref b]/\(v=.non\/∃p,PlE K H v p/\jk rs p.R)/\H b=some (.lst ws)/\(∃rs',Paired (bM K H) ws rs'/\rs'.length=13/\∀r∈rs',eE r)/\∀(u:V) r H',ao H H'->bM K H' u r->eE r->Q u H'
variable(eT:Df P w K mg base 2 "_law_make_note" ["_law_cell","_law_plot","_law_pool"] (iA K))
theorem fH:aA ["_law_cell","_law_plot","_law_pool","_law_some","_law_notes"] ["_law_cell","_law_plot","_law_pool"] (ak (top 66)):=by trivial
include B bL az in
theorem nE(T:Tx K mg "_law_make_note" (top 66) ["_law_cell","_law_plot","_law_pool"]):Df P w K mg base 2 "_law_make_note" ["_law_cell","_law_plot","_law_pool"] (iA K):=by
 refine T.df fH (by rintro _ _ _ _ ⟨z,v,b,ws,rs,rfl,hv,hb0,⟨rs1,pr,l13,br⟩,q⟩;rfl) ?_;rintro f _ A _ s H _ Q E hr ⟨z,v,b,ws,rs,rfl,hv,hb0,⟨rs1,pr,l13,br⟩,q⟩;refine aO ?_;intro kX;refine ah 4 (aj (aC (aH bD (aq zV (pv 3) (pv 2)) (aB az hr (aa (pv 0) (aa ae (aa (aq bg (aV bo (by rfl) B.len Hw (aa (pv 3) ag)) ae) ag)))) (fun _ _=>rfl)))) ?_;intro kR4 pR4;refine ah 3 (ai (aT ((kQ (aD jH (aV bo (by rfl) B.len Hw (aa (pv 4) ag)) ae (aE _)) (iQ (aD jH (aB az hr (aa (pv 0) (aa ae (aa ae ag)))) ae (aE _)))).pt) (aj (aC (aH bD (pv 4) (aB az hr (aa (pv 0) (aa ae (aa (aV bo (by rfl) B.len Hw (aa (pv 4) ag)) ag)))) (fun _ _=>rfl)))) aG) pR4) ?_;intro kR3 pR3;refine ah 2 (ai (jQ (i:=4) fH.nd rfl (by trivial) ["_law_burden"] [] (fC _ []) rfl (by rfl) rfl (by trivial) (by trivial) (aU (by rfl)) (cC (by rfl)) mN mN (bE (by decide)) (dJ (pv 3)) (fun _ _ _ _=>aM (i:=0) (show(["_law_burden"]:List Str).Nodup by trivial) rfl (Or.inl rfl) (Or.inr rfl)) (fun _ _ _ _=>iH (aD cj (aH (fN (K:=K) rfl) (pv 0) ae (fun _ _=>rfl)) aR (aE _))) (fun _ _ _ _=>(pv 0))) pR3) ?_;intro kR2 pR2;refine ah 1 (ai (aw (i:=3) fH.nd rfl (by trivial) (aB bL hr (aa (pv 1) ag))) pR2) ?_;intro kR1 pR1;refine⟨_,(ai (aT ((mB (aD ig (pv 1) cL (aE _)) (kP (aD cj (aB az hr (aa (pv 0) (aa ae (aa ae ag)))) ae (aE _)))).pt) (aj (aC (aH bD (pv 2) (aB az hr (aa (pv 0) (aa ae (aa ae ag)))) (fun _ _=>rfl)))) aG) pR1),?_⟩;have hb:=SqL.of (K:=K) hb0;have lw:=Gw pr;have num:∀{H1:Hp}{ws1:List V}{rs2:List (List Key)}{k:Nat},Paired (bM K H1) ws1 rs2->(∀r∈rs2,eE r)->ao H H1->(hk:k<ws1.length)->Q ws1[k] H1:=fun {H1 ws1 rs2 k} p br s hk=>by obtain⟨r,hr,bur⟩:=aQ p (GB hk);exact q _ r _ s bur (br r (Gp hr))
 rcases hv with rfl|⟨p,hp,hN⟩
 ·refine⟨_,rfl,rfl,_,rfl,ip ?_⟩;refine⟨_,rfl,_,rfl,z,113,13,rfl,by decide,by decide,fun k hk=>?_⟩;exact⟨b,_,_,_,rfl,rfl,hb,au (GB (by lia)),num pr br (ao.refl _) (by omega)⟩
 obtain⟨l0,ls0,lr0,rfl,_⟩:=id hp;refine⟨_,rfl,rfl,_,rfl,eZ ?_⟩;refine⟨_,rfl,z,112,4,rfl,by decide,by decide,fun j hj=>⟨rfl,_,rfl,?_⟩⟩;refine bf (fun h1=>?_) (fun h1=>?_)
 ·refine⟨_,rfl,_,rfl,z,113,13,rfl,by decide,by decide,fun k hk=>?_⟩;exact⟨b,_,_,_,rfl,rfl,hb,au (GB (by lia)),num pr br (ao.refl _) (by omega)⟩
 refine⟨_,rfl,_,p,rs,rfl,hp,hN,fun l ys T H1 s1 hl0 py hB=>?_⟩;have hl:=SqL.of (K:=K) hl0;have ly:=Gw py;have bT:∀r∈T,eE r:=fun r hr=>by obtain⟨c,hc,hr'⟩:=(hB.mem r).mp hr;obtain⟨q',hq',rfl⟩:=Gm.mp hc;exact hN.bur r (hN.sub q' hq' r hr')
 have lT:T.length<=59:=Er hB (fun c' hc' r hr=>by
  obtain⟨q',hq',rfl⟩:=Gm.mp hc'
  exact hN.sub q' hq' r hr) hN.l59
 refine⟨_,rfl,l,rfl,⟨_,hl⟩,fun A hA=>?_⟩;have sA:∀o:HO,ao H1 (upd H1 A o):=fun o=>ao.upd hA;refine vw (K:=K) (a:=l) (xs:=ys) (fun i acc H2=>H2=upd H1 A (.lst acc)/\Paired (bM K H1) acc ((T.take i).filter fun r=>decide (qp r=("note":Str)))) ⟨rfl,.nil⟩ (fun i acc H2 _ ⟨e,_⟩=>by rw[e];exact(sA _).seq hl) ?_ ?_
 ·rintro i y acc H2 hi ⟨rfl,pa⟩;refine dM ?_;intro kq1 kr1;obtain⟨r,hr,bur⟩:=aQ py hi;obtain⟨lay,ab,rfl,ha⟩:=id bur;obtain⟨nn',k,x,m,u,er⟩:=bT r (Gp hr);have en:qp r=k:=by rw[er];rfl
  rw[er]at ha;have tk1:T.take (i+1)=T.take i++[r]:=by rw[GF,hr];rfl
  have i59:i<ys.length:=(GA.mp hi).1;refine⟨_,rfl,ab,_,_,_,rfl,rfl,(sA _).tup ha,au (j:=1) rfl,rfl,_,rfl,?_⟩;refine bf (fun z=>?_) (fun z=>?_)
  ·have z':qp r=("note":Str):=(by rw[en];exact V.str.inj (GU z));refine⟨_,rfl,af,?_,by rw[aZ],?_⟩
   ·have l1:=Gw pa;have l2:((T.take i).filter fun r=>decide (qp r=("note":Str))).length<=i:=G0 (HS _ _) (by rw[GR];lia);exact aF (by lia)
   ·rw[tk1,Hy,List.filter_cons_of_pos (by simpa using z')];exact Paired.app pa (.cons bur .nil)
  ·have z':¬qp r=("note":Str):=fun w=>z (GN (congrArg V.str (by rw[<-en];exact w)));refine⟨rfl,?_⟩;rw[tk1,Hy,List.filter_cons_of_neg (by simpa using z')];simpa using pa
 rintro acc H2 ⟨rfl,pa⟩;rw[ly,GL]at pa;have s2:=s1.trans (sA (.lst acc));have hA2:(upd H1 A (.lst acc)) A=some (.lst acc):=af;have hl2:=(sA (.lst acc)) _ _ hl0;replace pa:=Paired.imp (fun _ _ y=>bM.tk (sA (.lst acc)).tk y) pa;replace py:=Paired.imp (fun _ _ y=>bM.tk (sA (.lst acc)).tk y) py;generalize (upd H1 A (.lst acc))=H2 at s2 hA2 hl2 pa py ⊢;have bF:∀r∈T.filter fun r=>decide (qp r=("note":Str)),eE r:=fun r hr=>bT r (HK.mp hr).1;refine⟨_,rfl,A,_,rfl,.inl (SqL.of hA2),_,_,rfl,rfl,_,rfl,?_⟩;refine bf (fun h2=>?_) (fun h2=>eZ ?_)
 ·have pos:0<acc.length:=by
   have:=GU h2;omega
  refine⟨_,rfl,z,114,4,rfl,by decide,by decide,fun j hj=>⟨_,_,rfl,rfl,_,rfl,?_⟩⟩;refine bf (fun h3=>?_) (fun h3=>?_)
  ·exact⟨_,rfl,_,rfl,_,rfl,A,acc,rfl,.inl (SqL.of hA2),z,115,acc.length,rfl,pos,by decide,fun k hk=>⟨A,_,_,_,rfl,rfl,SqL.of hA2,au (GB hk),num pa bF s2 hk⟩⟩
  refine⟨_,rfl,_,rfl,l,b,ys,ws,rfl,rfl,hl2,s2 _ _ hb0,by rw[Hl];lia,fun pc hpc=>?_⟩;have sC:=ao.upd (o:=.lst (ys++ws)) hpc;refine⟨_,rfl,_,rfl,l,ys,rfl,.inl (SqL.of (sC _ _ hl2)),_,_,rfl,rfl,z,116,ys.length+1,rfl,by lia,by decide,fun k hk=>?_⟩;refine⟨pc,_,_,_,rfl,rfl,SqL.of af,au (GB (by rw[Gn];lia)),num (rs2:=T++rs1) (Paired.app (Paired.imp (fun _ _ y=>bM.tk sC.tk y) py) (Paired.imp (fun _ _ y=>bM.tk (s2.trans sC).tk y) pr)) (fun r hr=>(Gv.mp hr).elim (bT r) (br r)) (s2.trans sC) _⟩
 ·refine⟨_,rfl,_,rfl,l,b,ys,ws,rfl,rfl,hl2,s2 _ _ hb0,by rw[Hl];lia,fun pc hpc=>?_⟩;have sC:=ao.upd (o:=.lst (ys++ws)) hpc;refine⟨_,rfl,_,rfl,l,ys,rfl,.inl (SqL.of (sC _ _ hl2)),_,_,rfl,rfl,z,116,ys.length+1,rfl,by omega,by decide,fun k hk=>?_⟩;refine⟨pc,_,_,_,rfl,rfl,SqL.of af,au (GB (by rw[Gn];lia)),num (rs2:=T++rs1) (Paired.app (Paired.imp (fun _ _ y=>bM.tk sC.tk y) py) (Paired.imp (fun _ _ y=>bM.tk (s2.trans sC).tk y) pr)) (fun r hr=>(Gv.mp hr).elim (bT r) (br r)) (s2.trans sC) _⟩
def n9(K:Frag):Sp:=fun vs H Q _=>∃(v t:V)(p:Plt)(rs:List (List Key))(lw sg:Addr)(num since:Int)(L:dY),vs=[v,.ref lw]/\PlE K H v p/\jk rs p.R/\SqT K H lw (Du t num since sg L)/\∀H',ao H H'->(ic p L since->Q (.bl true) H')/\(¬ic p L since->Q (.bl false) H')
variable(i8:Df P w K mg base 2 "_law_fits" ["_law_plot","_law_row"] (n9 K))
theorem ow:aA ["_law_plot","_law_row","_law_burden"] ["_law_plot","_law_row"] (ak (top 67)):=by trivial
include B bL in
theorem uR(T:Tx K mg "_law_fits" (top 67) ["_law_plot","_law_row"]):Df P w K mg base 2 "_law_fits" ["_law_plot","_law_row"] (n9 K):=by
 refine T.df ow (by rintro _ _ _ _ ⟨v,t,p,rs,lw,sg,num,since,L,rfl,hp,hN,hw,q⟩;rfl) ?_;rintro f _ A _ s H _ Q E hr ⟨v,t,p,rs,lw,sg,num,since,L,rfl,hp,hN,hw,q⟩;refine aO ?_;intro kX;refine ah 1 (aj (aC rO)) ?_;intro kR1 pR1;refine⟨_,(ai (cq GW rfl (dJ (aB bL hr (aa (pv 0) ag))) (aM (i:=2) ow.nd rfl (by trivial)) (aj (aT (aD cj (aH aL (pv 2) ae (fun _ _=>rfl)) (aH aL (pv 1) ae (fun _ _=>rfl)) (aE _)) (aj (aC (nv (cB cj (aH aL (pv 2) ae (fun _ _=>rfl)) aR (aE _)) (nv (cB cj (aH aL (pv 2) ae (fun _ _=>rfl)) (aH aL (pv 1) ae (fun _ _=>rfl)) (aE _)) (kT (cB CS (aH aL (pv 2) ae (fun _ _=>rfl)) (aH aL (pv 1) ae (fun _ _=>rfl)) (aE _))))))) aG))) pR1),?_⟩;refine⟨_,rfl,_,p,rs,rfl,hp,hN,fun l ys T H1 s1 hl0 py hB=>?_⟩;have onT:∀r,r∈T<->OnR p.R r:=fun r=>by
  rw[hB.mem];constructor
  ·rintro⟨c',hc',hr⟩;obtain⟨q',hq',rfl⟩:=Gm.mp hc';exact⟨q',hq',hr⟩
  ·rintro⟨q',hq',hr⟩;exact⟨_,Gm.mpr ⟨q',hq',rfl⟩,hr⟩
 refine⟨l,rfl,⟨_,SqL.of hl0⟩,eJ (K:=K) (a:=l) (xs:=ys) (fun i σ H2=>∃o2:Option V,σ=[some v,some (.ref lw),o2]/\H2=H1/\∀r∈T.take i,aN r≠L.nt) ⟨none,rfl,rfl,fun _ z=>nomatch z⟩ (fun i σ H2 _ hPz=>hPz.elim fun _ hPz=>(fun e=>by rw[e];exact SqL.of hl0) (hPz.2.1)) ?_ ?_⟩
 ·rintro i y σ H2 hi ⟨o2,rfl,rfl,hn⟩;refine dw ?_;intro kD1;obtain⟨r,hr,bur⟩:=aQ py hi;obtain⟨lay,ab,rfl,ha⟩:=id bur;have rin:=Gp hr;have on:=(onT r).mp rin;obtain⟨q0,hq0,hr0⟩:=id on;have ib:=hN.bur r (hN.sub q0 hq0 r hr0);have one:aN r=L.nt->(ic p L since<->Ec L since r):=fun e=>⟨fun⟨r',on',f'⟩=>by rw[xo hN on on' (by rw[e,f'.1])];exact f',fun y=>⟨r,on,y⟩⟩;obtain⟨nn,k,x,m,u,rfl⟩:=ib;have hw1:=s1.tup hw;refine⟨_,rfl,ab,_,_,_,rfl,rfl,ha,au (j:=0) rfl,_,rfl,lw,_,_,_,rfl,rfl,hw1,au (j:=10) rfl,rfl,_,rfl,?_⟩;refine bf (fun z=>?_) (fun z=>?_)
  ·have en:aN [Sum.inl nn,Sum.inr k,Sum.inr x,Sum.inl m,Sum.inl u]=L.nt:=veq.mp z;have fi:=one en;refine⟨_,rfl,ab,_,_,_,rfl,rfl,ha,au (j:=1) rfl,rfl,_,rfl,?_⟩;refine bf (fun z1=>?_) (fun z1=>?_)
   ·refine⟨_,rfl,ab,_,_,_,rfl,rfl,ha,au (j:=2) rfl,_,rfl,lw,_,_,_,rfl,rfl,hw1,au (j:=6) rfl,rfl,_,rfl,?_⟩;refine bf (fun z2=>?_) (fun z2=>?_)
    ·refine⟨_,rfl,ab,_,_,_,rfl,rfl,ha,au (j:=4) rfl,_,rfl,lw,_,_,_,rfl,rfl,hw1,au (j:=2) rfl,_,_,rfl,rfl,?_⟩;by_cases z3:since<=u
     ·show Q (.bl (decide (since<=u))) _;rw[GN z3];exact(q _ s1).1 (fi.mpr ⟨en,V.str.inj (GU z1),V.str.inj (GU z2),z3⟩)
     ·show Q (.bl (decide (since<=u))) _;rw[GZ z3];exact(q _ s1).2 fun y=>z3 (fi.mp y).2.2.2
    ·exact(q _ s1).2 fun y=>z2 (GN (congrArg V.str (fi.mp y).2.2.1))
   ·exact(q _ s1).2 fun y=>z1 (GN (congrArg V.str (fi.mp y).2.1))
  ·refine⟨_,rfl,rfl,fun r' hr'=>?_⟩;rw[GF,hr,G3]at hr';rcases Gv.mp hr' with w|w
   ·exact hn r' w
   ·rw[Gk.mp w];exact fun y=>z (veq.mpr y)
 ·rintro σ H2 ⟨o2,rfl,rfl,hn⟩;rw[Gw py,GL]at hn;exact(q _ s1).2 fun⟨r,on,y⟩=>hn r ((onT r).mpr on) y.1
def ju(K:Frag):Sp:=fun vs H Q _=>∃(a:Addr)(ns:List Int)(j:Nat),vs=[.ref a,.int j]/\SqL K H a (ns.map V.int)/\j<=3/\∀(l:Addr)(ms:List Int) H',ao H H'->SqL K H' l (ms.map V.int)->Q (.ref l) H'
variable(fQ:Df P w K mg base 2 "_law_shifted" ["_law_script","_law_j"] (ju K))
theorem pR:aA ["_law_script","_law_j"] ["_law_script","_law_j"] (ak (top 70)):=by trivial
include B aJ in
theorem qa(T:Tx K mg "_law_shifted" (top 70) ["_law_script","_law_j"]):Df P w K mg base 2 "_law_shifted" ["_law_script","_law_j"] (ju K):=by
 refine T.df pR (by rintro _ _ _ _ ⟨a,ns,j,rfl,hS,hj,q⟩;rfl) ?_;rintro f _ A _ s H _ Q E hr ⟨a,ns,j,rfl,hS,hj,q⟩;refine⟨_,(aj (aC (bR ["_law_k"] [("_law_script",0),("_law_j",1)] (fC _ ["_law_script","_law_j"]) rfl (by rfl) rfl (by trivial) (by trivial) (aU (by rfl)) (cC (by rfl)) (mC ⟨rfl,rfl⟩ (mC ⟨rfl,rfl⟩ mN)) (mC rfl (mC rfl mN)) (bE (by decide)) (bN (by rfl) B.range (aa ae ag)) (fun _ _ _ _=>aM (i:=0) (show(["_law_k","_law_script","_law_j"]:List Str).Nodup by trivial) rfl (Or.inl rfl) (Or.inr rfl)) (fun _ _ _ _=>bQ) (fun _ _ _ _=>(aq bg (aB aJ hr (aa (pv 1) (aa (pv 0) ag))) (aq cu (aq cu (aq cu (pv 2) ae) (aq bg (pv 0) ae)) (bO ke (by rfl) B.int boot_int (aa (cB jH (pv 0) ae (aE _)) ag)))))))),?_⟩;refine⟨20,rfl,by decide,by decide,fun A hA=>?_⟩;refine kJ (n:=20) (lo:=0) (fun i acc H2=>H2=upd H A (.lst acc)/\∃ms:List Int,acc=ms.map V.int/\ms.length=i) ⟨rfl,[],rfl,rfl⟩ ?_ ?_
 ·rintro i acc H2 hi ⟨rfl,ms,rfl,lm⟩;rw[show(0:Int)+(i:Int)=((i:Nat):Int) by omega];refine dM ?_;intro kq1 kr1;refine⟨_,rfl,_,rfl,a,ns,i,rfl,(ao.upd hA).seq hS,_,rfl,_,_,rfl,rfl,.inl ⟨by lia,by lia⟩,_,rfl,_,_,rfl,rfl,_,_,rfl,rfl,.inl ⟨by lia,by lia⟩,_,rfl,_,_,rfl,rfl,.inr ⟨_,rfl,?_⟩⟩;refine⟨_,_,rfl,rfl,.inr ⟨by split<;>decide,by split<;>decide⟩,_,_,rfl,rfl,af,?_,by rw[aZ],ms++[_],by rw[GK];rfl,by rw[Gn,lm];rfl⟩;rw[Gh];exact aF (by lia)
 rintro acc H2 ⟨rfl,ms,rfl,lm⟩;exact q A ms _ (ao.upd hA) (SqL.of af)
def ml(K:Frag):Sp:=fun vs H Q _=>∃(v:V)(p:Plt)(rs:List (List Key))(n:Int),vs=[v,.int n]/\PlE K H v p/\jk rs p.R/\∀H',ao H H'->(∀v r,OnR p.R r->aN r=n->bM K H' v r->Q v H')/\((∀r,OnR p.R r->aN r≠n)->Q .non H')
variable(ia:Df P w K mg base 3 "burden_on" ["plot","number"] (ml K))
theorem mq:aA ["plot","number","burden"] ["plot","number"] (ak (top 15)):=by trivial
include B gz in
theorem tQ(T:Tx K mg "burden_on" (top 15) ["plot","number"]):Df P w K mg base 3 "burden_on" ["plot","number"] (ml K):=by
 refine T.df mq (by rintro _ _ _ _ ⟨v,p,rs,n,rfl,hp,hN,q⟩;rfl) ?_;rintro f _ A _ s H _ Q E hr ⟨v,p,rs,n,rfl,hp,hN,q⟩;refine aO ?_;intro kX;refine ah 1 (aj (aC cL)) ?_;intro kR1 pR1;refine⟨_,(ai (cq GW rfl (eF (aB gz hr (aa (aH aL (pv 0) ae (fun _ _=>rfl)) ag))) (aM (i:=2) mq.nd rfl (by trivial)) (aj (aT (aD cj (aH aL (pv 2) ae (fun _ _=>rfl)) (pv 1) (aE _)) (aj (aC (pv 2))) aG))) pR1),?_⟩;obtain⟨l,ls,lr,rfl,h1,h2,h3⟩:=hp;refine⟨_,rfl,l,_,_,_,rfl,rfl,h1,au (j:=2) rfl,lr,p.R,rs,rfl,h3,(by have:=hN.len;lia),hN.sub,hN.l59,hN.bur,hN.nd,fun b T H' s' hB hc=>?_⟩;obtain⟨xs,hx,pr⟩:=hc.bur;have on:∀r,r∈T<->OnR p.R r:=fun r=>by
  rw[hB.mem];constructor
  ·rintro⟨c,hc,hr⟩;obtain⟨q,hq,rfl⟩:=Gm.mp hc;exact⟨q,hq,hr⟩
  ·rintro⟨q,hq,hr⟩;exact⟨_,Gm.mpr ⟨q,hq,rfl⟩,hr⟩
 have hb:∀r∈T,eE r:=fun r hr=>by obtain⟨q,hq,hr'⟩:=(on r).mp hr;exact hN.bur r (hN.sub q hq r hr')
 refine⟨b,rfl,⟨_,hx⟩,gv (K:=K) (a:=b) (xs:=xs) (fun i σ H2=>∃o2:Option V,σ=[some (.ref l),some (.int n),o2]/\H2=H'/\∀r∈T.take i,aN r≠n) ⟨none,rfl,rfl,fun _ z=>nomatch z⟩ (fun i σ H2 _ hPz=>hPz.elim fun _ hPz=>(fun e=>by rw[e];exact hx) (hPz.2.1)) ?_ ?_⟩
 ·rintro i y σ H2 hi ⟨o2,rfl,rfl,hn⟩;refine dw ?_;intro kD1;obtain⟨r,hr,bur⟩:=aQ pr hi;obtain⟨lay,ab,rfl,ha⟩:=id bur;have rin:=Gp hr;obtain⟨nn,k,x,m,u,er⟩:=hb r rin;have en:aN r=nn:=by rw[er];rfl
  rw[er]at ha;refine⟨_,rfl,ab,_,_,_,rfl,rfl,ha,(au (j:=0) rfl),_,rfl,rfl,_,rfl,?_⟩;refine bf (fun z=>?_) (fun z=>?_)
  ·exact⟨_,rfl,(q _ s').1 _ r ((on r).mp rin) (by rw[en];exact veq.mp z) bur⟩
  ·refine⟨_,rfl,rfl,fun r' hr'=>?_⟩;rw[GF,hr,G3]at hr';rcases Gv.mp hr' with w|w
   ·exact hn r' w
   ·rw[Gk.mp w,en];exact fun y=>z (veq.mpr y)
 ·rintro σ H2 ⟨o2,rfl,rfl,hn⟩;rw[Gw pr,GL]at hn;exact(q _ s').2 fun r hr=>hn r ((on r).mpr hr)
def oj(K:Frag)(mg:Str->Option Value):Sp:=fun vs H Q E=>∃(l:Addr)(xs:List V)(gs:List Nat)(c:Nat),vs=[.ref l,.int c]/\SqL K H l xs/\Paired (HdE K H) xs gs/\c<=64/\(cW xs gs c≠ .non->Q (cW xs gs c) H)/\(cW xs gs c=.non->∀dx H',ao H H'->H' dx=some (XD dx [("who",.str (Str.ofString "")),("word",.str (Str.ofString "waste"))])->E (rg mg "Falls") (some dx) H')
variable(iW:DfN P w K mg base 3 "ask_plot" ["plots","cell"] (oj K mg))
theorem oz:aA ["plots","cell","plot"] ["plots","cell"] (ak (top 17)):=by trivial
include B j7 cD bC bu in
theorem uV(T:Tx K mg "ask_plot" (top 17) ["plots","cell"]):DfN P w K mg base 3 "ask_plot" ["plots","cell"] (oj K mg):=by
 refine T.dfN oz (by rintro _ _ _ _ ⟨l,xs,gs,c,rfl,hl,pr,hc,q,e⟩;rfl) ?_;rintro f _ A _ s H _ Q E hr ⟨l,xs,gs,c,rfl,hl,pr,hc,q,e⟩;refine aO ?_;intro kX;refine ah 2 (aj (aC (pv 2))) ?_;intro kR2 pR2;refine ah 1 (ai (aT (aD ig (pv 2) cL (aE _)) (aj (gB (W:=RzW H E) rfl (nu cD hr (aa aR (aa aR (aa aR ag)))) (fun _ _ _ _ _ _ _ I hx ee=>jP I hx ee.1 ee.2))) aG) pR2) ?_;intro kR1 pR1;refine⟨_,(ai (aw (i:=2) oz.nd rfl (by trivial) (aB j7 hr (aa (pv 0) (aa (pv 1) ag)))) pR1),?_⟩;refine⟨_,rfl,_,rfl,l,xs,gs,c,rfl,.inl hl,pr,hc,?_⟩;refine⟨_,rfl,rfl,_,rfl,?_⟩;refine bf (fun h2=>?_) (fun h2=>?_)
 ·exact⟨aK rfl,gw bC bu (ao.refl _) (e (GU h2))⟩
 ·exact⟨_,rfl,q fun z=>h2 (GN z)⟩
def kA(K:Frag)(mg:Str->Option Value):Sp:=fun vs H Q E=>∃(a C dx sg l:Addr)(fs:List (Str×V))(ss xs:List Str),vs=[.ref a,.ref l]/\H a=some (.ins C dx fs)/\xV K mg C/\fs.lookup ("wanting":Str)=none/\fs.lookup ("signed":Str)=some (.ref sg)/\SqT K H sg (SV ss)/\SqL K H l (SV xs)/\(∀x∈ss,PyData.canLay0 (.str x)=true)/\(∀x∈xs,PyData.canLay0 (.str x)=true)/\(fF ss xs=none->Q .non H)/\(∀x,fF ss xs=some x->∀dx H',ao H H'->H' dx=some (XD dx [("who",.str x),("word",.str (Str.ofString "sign"))])->E (rg mg "Falls") (some dx) H')
variable(gq:DfN P w K mg base 3 "ask_signed" ["paper","names"] (kA K mg))
theorem kD:aA ["paper","names","who"] ["paper","names"] (ak (top 18)):=by trivial
include B eU cD cZ bC bu in
theorem qZ(T:Tx K mg "ask_signed" (top 18) ["paper","names"]):DfN P w K mg base 3 "ask_signed" ["paper","names"] (kA K mg):=by
 refine T.dfN kD (by rintro _ _ _ _ ⟨a,C,dx,sg,l,fs,ss,xs,rfl,ha,PC,hw,hf,hs,hl,lss,lxs,q,e⟩;rfl) ?_;rintro f _ A _ s H _ Q E hr ⟨a,C,dx,sg,l,fs,ss,xs,rfl,ha,PC,hw,hf,hs,hl,lss,lxs,q,e⟩;refine aO ?_;intro kX;refine ah 1 (aj (aT (aD pf (pv 2) cL (aE _)) (aj (gB (W:=RzW H E) rfl (nu cD hr (aa aR (aa aR (aa (pv 2) ag)))) (fun _ _ _ _ _ _ _ I hx ee=>jP I hx ee.1 ee.2))) aG)) ?_;intro kR1 pR1;refine⟨_,(ai (aw (i:=2) kD.nd rfl (by trivial) (fV (CX:=CX0) (E:=E0) (dvs:=[]) (ds:=[]) ["self","names"] 1 (pv 0) (hr.mono (by decide)) .nil ji (aa (pv 1) ag))) pR1),?_⟩;obtain⟨CP,mP,eP⟩:=PC.want;have eC:CP=ck:=by have:=cZ.mg;rw[mP]at this;cases this;rfl
 subst eC;refine⟨_,rfl,a,C,dx,fs,_,rfl,ha,PC.cls,eU.under eP,hw,_,rfl,a,C,dx,sg,l,fs,ss,xs,rfl,ha,PC,hf,hs,hl,lss,lxs,?_⟩;refine⟨_,rfl,rfl,_,rfl,?_⟩;cases hx:fF ss xs with
 |none=>exact eZ (q hx)
 |some x=>exact ip ⟨_,rfl,aK rfl,gw bC bu (ao.refl _) (e x hx)⟩
def iC(K:Frag)(mg:Str->Option Value):Sp:=fun vs H Q E=>∃(a C dx sg:Addr)(num since:Int)(L:dY)(tr:V)(v:V)(p:Plt)(b:Addr)(R':cw),vs=[.ref a,v,.ref b]/\H a=some (.ins C dx (mL num since sg L tr))/\rn K mg C/\PlE K H v p/\StrT K H b R'/\R'.length<=64/\(¬(∃q∈R',12<q.2.length)->∀w H',ao H H'->PlE K H' w ⟨p.g,p.S,R',num⟩->Q w H')/\((∃q∈R',12<q.2.length)->(∀dx H',ao H H'->H' dx=some (XD dx [("who",.str (Str.ofString "")),("word",.str (Str.ofString "many"))])->E (rg mg "Falls") (some dx) H'))
variable(eV:DfT P w K mg base (CXn P w) 3 aP "plot_with" ["self","plot","strips"] (iC K mg) [])
theorem nj:aA ["self","plot","strips"] ["self","plot","strips"] (ak eN):=by trivial
include B ka cD jY cf bC bu in
theorem nG(T:TxM K aP "plot_with" "Lay.plot_with" eN ["self","plot","strips"] []):DfT P w K mg base (CXn P w) 3 aP "plot_with" ["self","plot","strips"] (iC K mg) []:=by
 refine T.dfN nj (by rintro _ _ _ _ ⟨a,C,dx,sg,num,since,L,tr,v,p,b,R',rfl,ha,D,hp,hT,hz,q1,q2⟩;rfl) ?_;rintro f _ A _ s H _ Q E hr ⟨a,C,dx,sg,num,since,L,tr,v,p,b,R',rfl,ha,D,hp,hT,hz,q1,q2⟩;refine aO ?_;intro kX;refine ah 1 (aj (aC (aX (aa (aH aL (pv 1) ae (fun _ _=>rfl)) (aa (aH aL (pv 1) ae (fun _ _=>rfl)) (aa (pv 2) (aa (c8 (pv 0) rfl) ag))))))) ?_;intro kR1 pR1;refine⟨_,(ai (aT (aD jH (aB ka hr (aa (pv 2) ag)) (tF (v:=.int 12) (by rfl) jY.choose_spec ⟨_,rfl⟩) (aE _)) (aj (gB (W:=RzW H E) rfl (nu cD hr (aa aR (aa aR (aa aR ag)))) (fun _ _ _ _ _ _ _ I hx ee=>jP I hx ee.1 ee.2))) aG) pR1),?_⟩;refine⟨_,rfl,b,R',rfl,hT,by lia,fun m H1 s1 hM=>?_⟩;refine⟨_,_,rfl,rfl,_,rfl,?_⟩;have iff:=AL hM;refine bf (fun z=>?_) (fun z=>?_)
 ·exact⟨aK rfl,gw bC bu s1 fun dx' H' s' hd=>q2 (iff.mp (GU z)) dx' H' (s1.trans s') hd⟩
 obtain⟨l,l1',lr,rfl,p1,p2,p3⟩:=hp;replace p1:=s1.tup p1;replace ha:=s1 _ _ ha;refine⟨_,rfl,l,_,_,_,rfl,rfl,p1,au (j:=0) rfl,_,rfl,l,_,_,_,rfl,rfl,p1,au (j:=1) rfl,_,rfl,_,rfl,a,C,dx,_,_,rfl,ha,D.pap.cls,D.pap.num,rfl,aK rfl,fun t ht=>?_⟩;have s2:=ao.upd (o:=.tup [.int (p.g:Nat),.ref l1',.ref b,.int num]) ht;exact q1 (fun y=>z (GN (iff.mpr y))) _ _ (s1.trans s2) ⟨t,l1',b,rfl,SqT.of af,p2.tk (s1.trans s2).tk,hT.tk (s1.trans s2).tk⟩
def km(K:Frag):Sp:=fun vs H Q _=>∃(w h c:Nat),vs=[.int w,.int h,.int c]/\(0<w/\w<=8/\h<=8)/\c<2^(w*h)/\∀l ps H',H l=none->ao H H'->H' l=some (.lst (NV ps))->iM w h c ps->Q (.ref l) H'
variable(fz:Df P w K mg base 3 "_law_pieces" ["_law_wide","_law_high","_law_ground"] (km K))
theorem dy:aA ["_law_wide","_law_high","_law_ground","_law_found","_law_rest","_law_k","_law_one"] ["_law_wide","_law_high","_law_ground"] (ak (top 43)):=by trivial
include B aS dW in
theorem qU(T:Tx K mg "_law_pieces" (top 43) ["_law_wide","_law_high","_law_ground"]):Df P w K mg base 3 "_law_pieces" ["_law_wide","_law_high","_law_ground"] (km K):=by
 refine T.df dy (by rintro _ _ _ _ ⟨w,h,c,rfl,⟨hw,hw8,hh8⟩,hc,q⟩;rfl) ?_;rintro f _ A _ s H _ Q E hr ⟨w,h,c,rfl,⟨hw,hw8,hh8⟩,hc,q⟩;refine aO ?_;intro kX;refine ah 3 (aj (aC (pv 3))) ?_;intro kR3 pR3;refine ah 2 (ai (cq GW rfl (bN (by rfl) B.range (aa (aq cu (pv 0) (pv 1)) ag)) (aM (i:=5) dy.nd rfl (by trivial)) (aj (aT (dE (aB aS hr (aa (pv 4) (aa (pv 5) ag)))) (ai (aw (i:=6) dy.nd rfl (by trivial) (aB dW hr (aa (pv 0) (aa (pv 1) (aa (pv 2) (aa (pv 5) ag)))))) (ai (cO (jh G4 He Hd cH (pv 3) (aa (pv 6) ag))) (aj (aw (i:=4) dy.nd rfl (by trivial) (aq eY (pv 4) (pv 6)))))) aG))) pR3) ?_;intro kR2 pR2;refine ah 1 (ai (aw (i:=4) dy.nd rfl (by trivial) (pv 2)) pR2) ?_;intro kR1 pR1;refine⟨_,(ai (aw (i:=3) dy.nd rfl (by trivial) (cA ag)) pR1),?_⟩;have hwh:w*h<=64:=Nat.mul_le_mul hw8 hh8;have p64:2^(w*h)<=2^64:=Hb (by decide) hwh;have hc64:c<2^64:=Gx hc p64;have e1:((w:Int)*(h:Int))=((w*h:Nat):Int):=by simp
 have e2:(((w:Int)*(h:Int))).toNat=w*h:=by rw[e1,Hg]
 refine⟨G1 _,fun l hl=>?_⟩;have s0:=ao.upd (o:=.lst []) hl;refine⟨_,rfl,_,rfl,_,rfl,_,_,rfl,rfl,.inl ⟨by omega,by omega⟩,_,rfl,by lia,by lia,?_⟩;rw[e2];refine gE (lo:=0) (n:=w*h)
  (fun i σ H2=>∃(r:Nat)(xs:List Nat)(o5 o6:Option V),σ=[some (.int w),some (.int h),some (.int c),some (.ref l),some (.int r),o5,o6]/\SX l (upd H l (.lst [])) H2/\H2 l=some (.lst (NV xs))/\xs.length<=i/\r<2^(w*h)/\g7 w h c r/\Sub r c/\(∀j,j<i->r.testBit j=false)/\∀ps,iM w h r ps->iM w h c (xs++ps))
  ⟨c,[],none,none,rfl,SX.refl _ _,af,Gr _,hc,fun _ _ _ _ e=>e,fun _ e=>e,fun j hj=>by omega,fun _ z=>z⟩ ?_ ?_
 ·rintro i σ H2 hi ⟨r,xs,o5,o6,rfl,s2,hl2,hxl,hr',hcl,hs,hlow,hx⟩;rw[show(0:Int)+(i:Int)=((i:Nat):Int) by omega];refine dw ?_;intro kD1;refine⟨_,rfl,_,rfl,r,i,rfl,by lia,_,rfl,?_⟩;refine bf (fun hb=>?_) (fun hb=>?_)
  ·have hr64:r<2^64:=Gx hr' p64;have hr0:r≠0:=fun z=>by rw[z]at hb;simp at hb
   have eL:cb r=i:=jW (by lia) hb hlow;refine⟨_,rfl,_,rfl,_,rfl,_,rfl,w,h,c,i,rfl,⟨hw,hw8,hh8⟩,hc,hs i hb,fun p H3 hp s3=>?_⟩;have hpr:=hp.to_closed hcl hs hb;have hpr':cX w h r (cb r) p:=(by rw[eL];exact hpr);obtain⟨q1,q2,q3⟩:=qx hr64 hr0 hpr';have hl3:=s3 _ _ hl2;refine⟨_,rfl,.inl ⟨rfl,_,SqL.of hl3⟩,_,rfl,l,_,_,rfl,rfl,hl3,?_,?_⟩
   ·exact aF (by rw[Gh];lia)
   refine⟨_,rfl,_,rfl,_,_,rfl,rfl,?_⟩;have es:(r:Int)-(p:Int)=((dif r p:Nat):Int):=by
    have:=Cq (r:=r) (p:=p) fun j hj=>hpr.sub hj
    lia
   refine⟨dif r p,xs++[p],_,_,(by simp only[es];rfl),s2.trans ((SX.of s3).trans SX.set),(by rw[af,fK];rfl),(by rw[Gn,HC];lia),nQ hr',qB hw hc hcl hs hp,wZ hs,fun j hj=>?_,fun ps z=>?_⟩
   ·rw[eO];rcases Nat.lt_or_ge j i with z|z
    ·rw[hlow j z];rfl
    ·have:j=i:=(by lia);subst this;rw[eL]at q3;rw[q3];simp
   ·rw[HG];exact hx _ (.cons hr0 hpr' z)
  ·refine⟨r,xs,some (.int i),o6,rfl,s2,hl2,by lia,hr',hcl,hs,fun j hj=>?_,hx⟩;rcases Nat.lt_or_ge j i with z|z
   ·exact hlow j z
   ·have:j=i:=(by lia);subst this;simpa using hb
 ·rintro σ H2 ⟨r,xs,o5,o6,rfl,s2,hl2,hxl,hr',hcl,hs,hlow,hx⟩;have hr0:r=0:=Cz fun j=>by
   constructor
   ·intro z;rw[hlow j (gg hr' z)]at z;cases z
   ·intro z;simp at z
  subst hr0;have:=hx [] .nil;rw[GY]at this;exact⟨_,rfl,q l xs H2 hl (SX.same hl s0 s2) hl2 this⟩
def gN(K:Frag):Sp:=fun vs H Q _=>∃(k:Nat)(c w:Int),vs=[.int k,.int c,.int w]/\k<=12/\∀l r H',ao H H'->H' l=some (.tup (r.map kV))->(∀x∈r,u9 x=true)->eE r->aN r=qg (k:Nat) c->Q (.ref l) H'
variable(bK:Df P w K mg base 3 "_law_make_burden" ["_law_k","_law_cell","_law_way"] (gN K))
theorem cJ:aA ["_law_k","_law_cell","_law_way","_law_kind","_law_until","_law_holder"] ["_law_k","_law_cell","_law_way"] (ak (top 50)):=by trivial
include B bV az cS bI in
theorem lA(T:Tx K mg "_law_make_burden" (top 50) ["_law_k","_law_cell","_law_way"]):Df P w K mg base 3 "_law_make_burden" ["_law_k","_law_cell","_law_way"] (gN K):=by
 refine T.df cJ (by rintro _ _ _ _ ⟨k,c,w,rfl,hk,q⟩;rfl) ?_;rintro f _ A _ s H _ Q E hr ⟨k,c,w,rfl,hk,q⟩;refine aO ?_;intro kX;refine ah 4 (aj (aC (aX (aa (aB bI hr (aa (pv 0) (aa (pv 1) ag))) (aa (pv 3) (aa (pv 5) (aa (aq bp (aq cu (pv 1) (aq bg (pv 0) ae)) (aq bg (aq iU ae ae) ae)) (aa (pv 4) ag)))))))) ?_;intro kR4 pR4;refine ah 3 (ai (aw (i:=5) cJ.nd rfl (by trivial) (aB bV hr (aa (aB az hr (aa (pv 1) (aa (aq bg ae (aq cu ae (pv 0))) (aa ae ag)))) (aa (pv 2) ag)))) pR4) ?_;intro kR3 pR3;refine ah 2 (aY (aT (aD cj (pv 3) aR (aE _)) (aj (aw (i:=4) cJ.nd rfl (by trivial) (aB cS hr (aa (pv 1) (aa (aq bg ae (aq cu ae (pv 0))) (aa (pv 2) ag)))))) aG) pR3) ?_;intro kR2 pR2;refine ah 1 (ai (aw (i:=4) cJ.nd rfl (by trivial) ae) pR2) ?_;intro kR1 pR1;refine⟨_,(ai (aw (i:=3) cJ.nd rfl (by trivial) (aH bD (cA (aa aR (aa aR (aa aR (aa aR ag))))) (aB az hr (aa (pv 1) (aa (aq bg ae (aq cu ae (pv 0))) (aa ae ag)))) (fun _ _=>rfl))) pR1),?_⟩;refine⟨aK rfl,fun l hl=>?_⟩;have s1:=ao.upd (o:=.lst [V.str (Str.ofString "debt"),V.str (Str.ofString "way"),V.str (Str.ofString "buy"),V.str (Str.ofString "note")]) hl;refine⟨_,rfl,_,rfl,_,_,rfl,rfl,.inl ⟨by decide,by decide⟩,_,_,rfl,rfl,c,50+3*k,4,rfl,by decide,by lia,fun j hj=>?_⟩;obtain⟨vk,mk,hk'⟩:=Eu (xs:=[V.str (Str.ofString "debt"),V.str (Str.ofString "way"),V.str (Str.ofString "buy"),V.str (Str.ofString "note")]) (i:=(j:Nat)) (by omega) (by show(j:Int)<4;lia);obtain⟨kd,rfl,k0⟩:∃kd,vk=.str kd/\PyData.canLay0 (.str kd)=true:=by
  simp only[GH,List.not_mem_nil,or_false]at mk;rcases mk with rfl|rfl|rfl|rfl
  ·exact⟨_,rfl,by decide+kernel⟩
  ·exact⟨_,rfl,by decide+kernel⟩
  ·exact⟨_,rfl,by decide+kernel⟩
  ·exact⟨_,rfl,by decide+kernel⟩
 refine⟨l,_,_,_,rfl,rfl,SqL.of af,hk',?_⟩;generalize (upd H l (.lst [V.str (Str.ofString "debt"),V.str (Str.ofString "way"),V.str (Str.ofString "buy"),V.str (Str.ofString "note")]))=H1 at s1 ⊢;refine⟨fun σ' H'=>∃n:Int,σ'=[some (.int (k:Nat)),some (.int c),some (.int w),some (.str kd),some (.int n),none]/\ao H H',?_,?_⟩
 ·refine eI ?_;intro kD1;refine⟨_,rfl,rfl,_,rfl,?_⟩;refine bf (fun h1=>?_) (fun h1=>⟨0,rfl,s1⟩);refine⟨_,rfl,_,rfl,_,_,rfl,rfl,.inl ⟨by decide,by decide⟩,_,_,rfl,rfl,_,rfl,c,w,51+3*k,rfl,by lia,fun n H2 s2 _=>⟨n,rfl,s1.trans s2⟩⟩
 rintro σ' H2 ⟨u,rfl,s2⟩;refine⟨_,rfl,_,rfl,_,_,rfl,rfl,.inl ⟨by decide,by decide⟩,_,_,rfl,rfl,c,52+3*k,6,rfl,by decide,by lia,fun j hj=>?_⟩;refine⟨_,rfl,j,w,rfl,hj,?_⟩;have m0:=Hs (c*((k:Int)+1)) (show((10:Int)^(12:Int).toNat+1)≠0 by decide);refine⟨_,rfl,_,rfl,(k:Int),c,rfl,⟨by lia,by lia⟩,fun H3 s3=>?_⟩;obtain⟨n,en⟩:∃n,n=qg (k:Nat) c:=⟨_,rfl⟩;rw[<-en];refine⟨_,rfl,_,rfl,_,rfl,_,rfl,_,_,rfl,rfl,_,_,rfl,rfl,.inr ⟨by lia,by lia⟩,_,_,rfl,rfl,⟨by decide,by decide,by decide⟩,_,_,rfl,rfl,_,_,rfl,rfl,(by show(0:Int)<_;decide),_,rfl,aK rfl,fun l4 hl4=>?_⟩;have s4:=ao.upd (o:=.tup [V.int n,V.str kd,V.str (g9 w j),V.int (c*((k:Int)+1) % ((10:Int)^(12:Int).toNat+1)),V.int u]) hl4;refine q l4 [.inl n,.inr kd,.inr (g9 w j),.inl (c*((k:Int)+1) % ((10:Int)^(12:Int).toNat+1)),.inl u] _ (s2.trans (s3.trans s4)) af (fun x hx=>?_) ⟨_,_,_,_,_,rfl⟩ en;simp only[GH,List.not_mem_nil,or_false]at hx;rcases hx with rfl|rfl|rfl|rfl|rfl
 ·rfl
 ·exact k0
 ·exact(tR hj).1.lay
 ·rfl
 ·rfl
def iy(K:Frag):Sp:=fun vs H Q _=>∃(m:Nat)(z w last:Int)(b:Addr)(ws:List V)(rs:List (List Key)),vs=[.int m,.int z,.ref b,.int w,.int last]/\m<2^64/\SqL K H b ws/\Paired (bM K H) ws rs/\rs.length=13/\∀v p H',ao H H'->PlE K H' v p->wR ((List.range 6).map (g9 w)) rs p->((rs.map aN).Nodup->∀q∈p.R,(q.2.map aN).Nodup)->p.R.length<=2->p.g=m->p.last=last->Q v H'
variable(eQ:Df P w K mg base 3 "_law_make_plot" ["_law_cells","_law_cell","_law_pool","_law_way","_law_last"] (iy K))
theorem cF:aA ["_law_cells","_law_cell","_law_pool","_law_way","_law_last","_law_one","_law_other","_law_mask","_law_columns","_law_k"] ["_law_cells","_law_cell","_law_pool","_law_way","_law_last"] (ak (top 53)):=by trivial
include B cP de aS dP bH az in
theorem nB(T:Tx K mg "_law_make_plot" (top 53) ["_law_cells","_law_cell","_law_pool","_law_way","_law_last"]):Df P w K mg base 3 "_law_make_plot" ["_law_cells","_law_cell","_law_pool","_law_way","_law_last"] (iy K):=by
 refine T.df cF (by rintro _ _ _ _ ⟨m,z,w,last,b,ws,rs,rfl,hm,hb,pr,l13,q⟩;rfl) ?_;rintro f _ A _ s H _ Q E hr ⟨m,z,w,last,b,ws,rs,rfl,hm,hb,pr,l13,q⟩;have hu:=hr.units;refine aO ?_;intro kX;refine ah 5 (aj (aC (aX (aa (pv 0) (aa (aB dP hr (aa (pv 1) (aa (pv 3) ag))) (aa (aB bH hr (aa (pv 8) ag)) (aa (pv 4) ag))))))) ?_;intro kR5 pR5;refine ah 4 (ai (cq GW rfl (bN (by rfl) B.range (aa ae ag)) (aM (i:=9) cF.nd rfl (by trivial)) (aj (aT (dE (aB aS hr (aa (pv 0) (aa (pv 9) ag)))) (aj (mD (kG hr) (pv 8) (pv 9) (aH bD (cA (aa (pv 5) (aa (pv 6) ag))) (bO ke (by rfl) B.int boot_int (aa (aB aS hr (aa (pv 7) (aa (pv 9) ag))) ag)) (fun _ _=>rfl)) rfl)) aG))) pR5) ?_;intro kR4 pR4;refine ah 3 (ai (aw (i:=8) cF.nd rfl (by trivial) mF) pR4) ?_;intro kR3 pR3;refine ah 2 (ai (aw (i:=7) cF.nd rfl (by trivial) (aq cu (aB de hr (aa (aq cg (pv 1) ae) ag)) (bO ke (by rfl) B.int boot_int (aa (cB jH (aB az hr (aa (pv 1) (aa ae (aa ae ag)))) ae (aE _)) ag)))) pR3) ?_;intro kR2 pR2;refine ah 1 (ai (aw (i:=6) cF.nd rfl (by trivial) (aB cP hr (aa (aq bg (aq cg (pv 1) ae) ae) (aa (pv 2) ag)))) pR2) ?_;intro kR1 pR1;refine⟨_,(ai (aw (i:=5) cF.nd rfl (by trivial) (aB cP hr (aa (pv 1) (aa (pv 2) ag)))) pR1),?_⟩;refine⟨_,rfl,_,rfl,z,b,ws,rs,rfl,hb,pr,l13,fun l1 C1 H1 s1 hc1 cl1 cs1 nd1=>?_⟩;refine⟨_,rfl,_,_,rfl,rfl,⟨by decide,by decide⟩,_,_,rfl,rfl,_,rfl,_,b,ws,rs,rfl,s1.seq hb,Paired.imp (fun _ _=>bM.tk s1.tk) pr,l13,fun l2 C2 H2 s2 hc2 cl2 cs2 nd2=>?_⟩;refine⟨_,rfl,_,_,rfl,rfl,⟨by decide,by decide⟩,_,rfl,fun r=>?_⟩;refine⟨_,rfl,z,90,3,rfl,by decide,by decide,fun j hj=>?_⟩;refine⟨_,_,rfl,rfl,.inr ⟨_,rfl,?_⟩⟩;obtain⟨M,eM⟩:∃M:Nat,((r:Nat):Int)*(if decide ((0:Int)<((j:Nat):Int))=true then 1 else 0)=(M:Nat):=by
  split
  ·exact⟨r,by lia⟩
  ·exact⟨0,by lia⟩
 refine⟨_,_,rfl,rfl,.inr ⟨by split<;>decide,by split<;>decide⟩,?_⟩;dsimp only;rw[eM];clear eM;refine fun d hd=>?_;have s3:=s1.trans s2;have hc1':=hc1.tk s2.tk;have sd:∀o:HO,ao H2 (upd H2 d o):=fun o=>ao.upd hd;let gk:Nat->Nat->Option Col:=fun k i=>if i<k/\m.testBit i=true then some (if M.testBit i=true then C2 else C1)else none
 refine⟨64,rfl,by decide,by decide,gE (lo:=0) (fun k σ H3=>∃(o9:Option V)(kvs:List (Key×V)),σ=[some (.int m),some (.int z),some (.ref b),some (.int w),some (.int last),some (.ref l1),some (.ref l2),some (.int (M:Nat)),some (.ref d),o9]/\ao H2 H3/\H3 d=some (.dK kvs)/\GD K H3 kvs (gk k)/\(kvs.map fun q=>kV q.1)=NV ((List.range k).filter m.testBit)) ?_ ?_ ?_⟩
 ·refine⟨none,[],rfl,sd _,af,?_,rfl⟩;have e:gk 0=fun _=>none:=funext fun i=>Gu (fun z=>absurd z.1 (Nat.not_lt_zero _));rw[e];exact GD.nil
 ·rintro k σ H3 hk ⟨o9,kvs,rfl,s4,hd3,gd,ek⟩;rw[show(0:Int)+(k:Int)=((k:Nat):Int) by omega];refine dw ?_;intro kD1;refine⟨_,rfl,_,rfl,m,k,rfl,by lia,_,rfl,?_⟩;refine bf (fun h1=>?_) (fun h1=>?_)
  ·have lk:kvs.length<=64:=by
    have:=congrArg List.length ek;rw[Gh,Gh]at this;rw[this];exact G0 (HS _ _) (by rw[Hx];omega)
   have v0:fo kvs (.inl (k:Int))=none:=by
    rcases gd k with y|⟨_,c,_,e,_⟩
    ·exact y.1
    ·have e':(if k<k/\m.testBit k=true then some (if M.testBit k=true then C2 else C1)else none)=some c:=e;rw[Gu (fun y=>HW _ y.1)]at e';cases e'
   have hat:atI [V.ref l1,V.ref l2] (if M.testBit k=true then 1 else 0)=some (.ref (if M.testBit k=true then l2 else l1)):=by split<;>rfl
   refine⟨_,rfl,_,rfl,aK rfl,fun l5 hl5=>?_⟩;have s5:=ao.upd (o:=.lst [V.ref l1,V.ref l2]) hl5;have hd5:=s5 _ _ hd3;refine⟨_,rfl,_,rfl,M,k,rfl,by omega,.inr ⟨_,rfl,l5,_,_,_,rfl,rfl,SqL.of af,hat,?_⟩⟩;refine⟨_,rfl,_,rfl,d,_,rfl,uw.k (k:=.inl (k:Int)) hd5 (Nat.lt_of_le_of_lt lk (aF (by lia))),?_⟩;have tk6:=TK.dk (o:=.dK (putK kvs (.inl (k:Int)) (.ref (if M.testBit k=true then l2 else l1)))) hd5;have tk7:TK H2 (upd (upd H3 l5 (.lst [V.ref l1,V.ref l2])) d (.dK (putK kvs (.inl (k:Int)) (.ref (if M.testBit k=true then l2 else l1))))):=(s4.trans s5).tk.trans tk6;have hc:∀{HX:Hp},TK H2 HX->bX K HX (if M.testBit k=true then l2 else l1) (if M.testBit k=true then C2 else C1):=fun {HX} tx=>by
    split
    ·exact hc2.tk tx
    ·exact hc1'.tk tx
   refine⟨_,_,rfl,?_,af,?_,?_⟩
   ·intro a o e;rw[av (fun y=>by rw[y,hd]at e;cases e)];exact s5 _ _ (s4 _ _ e)
   ·have e:gk (k+1)=fun i=>if i=k then some (if M.testBit k=true then C2 else C1)else gk k i:=funext fun i=>by
     show(if i<k+1/\m.testBit i=true then _ else _)=(if i=k then _ else if i<k/\m.testBit i=true then _ else _);by_cases y:i=k
     ·subst y;rw[Gz ⟨by omega,h1⟩,Gz rfl]
     ·have:(i<k+1/\m.testBit i=true)<->(i<k/\m.testBit i=true):=⟨fun x=>⟨by lia,x.2⟩,fun x=>⟨by lia,x.2⟩⟩;rw[Gu y];simp only[this]
    rw[e];exact GD.put ((gd.tk s5.tk).tk tk6) (hc tk7)
   ·rw[uH _ v0,GK,ek,Ic,Hy,fK];simp[h1,kV]
  ·refine⟨_,kvs,rfl,s4,hd3,?_,?_⟩
   ·have e:gk (k+1)=gk k:=funext fun i=>by
     show(if i<k+1/\m.testBit i=true then _ else _)=(if i<k/\m.testBit i=true then _ else _);by_cases z:i=k
     ·subst z;rw[Gu (fun y=>h1 y.2),Gu (fun y=>h1 y.2)]
     ·have:(i<k+1/\m.testBit i=true)<->(i<k/\m.testBit i=true):=⟨fun y=>⟨by lia,y.2⟩,fun y=>⟨by lia,y.2⟩⟩;simp only[this]
    rw[e];exact gd
   ·rw[Ic,Hy,fK,ek];simp[h1]
 ·rintro σ H3 ⟨o9,kvs,rfl,s4,hd3,gd,ek⟩;refine⟨_,rfl,_,rfl,_,rfl,z,w,rfl,fun ls S H4 s5 hS gS=>?_⟩;have gi:∀i,(gk 64 i).isSome=true<->i<64/\m.testBit i=true:=fun i=>by
   show(if i<64/\m.testBit i=true then _ else none).isSome=true<->_;split
   ·rename_i y;exact⟨fun _=>y,fun _=>rfl⟩
   ·rename_i y;exact⟨(fun x=>by cases x),(fun x=>absurd x y)⟩
  refine⟨_,rfl,d,kvs,gk 64,(List.range 64).filter m.testBit,rfl,s5 _ _ hd3,gd.tk s5.tk,ek,List.Pairwise.filter _ List.pairwise_lt_range,G0 (HS _ _) (by rw[Hx];lia),fun i=>by rw[gi,HK,G7],fun i hi=>G7.mp (HK.mp hi).1,fun lr R H5 s6 hR iR=>?_⟩;refine⟨_,rfl,aK rfl,fun l hl=>?_⟩;have s7:=ao.upd (o:=.tup [.int (m:Nat),.ref ls,.ref lr,.int last]) hl;refine q (.ref l) ⟨m,S,R,last⟩ _ (s3.trans (s4.trans (s5.trans (s6.trans s7)))) ⟨l,ls,lr,rfl,SqT.of af,hS.tk (s6.trans s7).tk,hR.tk s7.tk⟩ ⟨hm,gS,gk 64,iR,fun i hi=>?_,fun i c e=>?_⟩ (fun nd q hq=>?_) (Br (C1:=C1) (C2:=C2) iR fun i c e=>?_) rfl rfl
  ·rw[gi];exact⟨fun y=>y.2,fun y=>⟨hi,y⟩⟩
  ·have e':(if i<64/\m.testBit i=true then some (if M.testBit i=true then C2 else C1)else none)=some c:=e;split at e'
   ·cases e';split
    ·exact⟨cl2,cs2⟩
    ·exact⟨cl1,cs1⟩
   ·exact nomatch e'
  ·obtain⟨i,_,e⟩:=lY iR hq;have e':(if i<64/\m.testBit i=true then some (if M.testBit i=true then C2 else C1)else none)=some q.2:=e;split at e'
   ·rw[<-G2 e'];split
    ·exact nd2 nd
    ·exact nd1 nd
   ·exact nomatch e'
  ·have e':(if i<64/\m.testBit i=true then some (if M.testBit i=true then C2 else C1)else none)=some c:=e;split at e'
   ·cases e';split
    ·exact .inr rfl
    ·exact .inl rfl
   ·exact nomatch e'
def n6(K:Frag):Sp:=fun vs H Q _=>∃(a:Addr)(ns:List Int)(w:Int),vs=[.ref a,.int w]/\SqL K H a (ns.map V.int)/\∀(l sg:Addr)(num since:Int)(ss:List Str) H',ao H H'->SqT K H' l [.int num,.int since,.ref sg]->SqT K H' sg (SV ss)->(∀x∈ss,PyData.canLay0 (.str x)=true)->Q (.ref l) H'
variable(i7:Df P w K mg base 3 "_law_head" ["_law_script","_law_way"] (n6 K))
theorem jC:aA ["_law_script","_law_way","_law_seed","_law_cell"] ["_law_script","_law_way"] (ak (top 58)):=by trivial
include B aJ bI cS dO in
theorem uQ(T:Tx K mg "_law_head" (top 58) ["_law_script","_law_way"]):Df P w K mg base 3 "_law_head" ["_law_script","_law_way"] (n6 K):=by refine T.df jC (by rintro _ _ _ _ ⟨a,ns,w,rfl,hS,q⟩;rfl) ?_;rintro f _ A _ s H _ Q E hr ⟨a,ns,w,rfl,hS,q⟩;refine aO ?_;intro kX;refine ah 2 (aj (aC (aX (aa (aB bI hr (aa ae (aa (pv 2) ag))) (aa (aB cS hr (aa (pv 3) (aa ae (aa (pv 1) ag)))) (aa (aB dO hr (aa (pv 3) (aa (pv 1) ag))) ag)))))) ?_;intro kR2 pR2;refine ah 1 (ai (aw (i:=3) jC.nd rfl (by trivial) (aB aJ hr (aa (pv 0) (aa ae ag)))) pR2) ?_;intro kR1 pR1;refine⟨_,(ai (aw (i:=2) jC.nd rfl (by trivial) (aB aJ hr (aa (pv 0) (aa ae ag)))) pR1),?_⟩;refine⟨_,rfl,a,ns,2,rfl,hS,?_⟩;refine⟨_,rfl,a,ns,3,rfl,hS,?_⟩;refine⟨_,rfl,20,_,rfl,⟨by decide,by decide⟩,fun H1 s1=>?_⟩;refine⟨_,rfl,_,rfl,_,w,1,rfl,by decide,fun n H2 s2 _=>?_⟩;refine⟨_,rfl,_,rfl,_,w,rfl,fun l ss H3 s3 hs ls=>⟨aK rfl,fun t ht=>?_⟩⟩;have s4:=ao.upd (o:=.tup [.int (qg 20 (ns.getD 2 0)),.int n,.ref l]) ht;exact q t l _ n ss _ (s1.trans (s2.trans (s3.trans s4))) (SqT.of af) (s4.tup hs) ls
def iz(K:Frag):Sp:=fun vs H Q _=>∃(z:Int)(c:Nat)(v:V)(w h:Nat)(rs:List (List Key)),vs=[.int z,.int c,v,.int w,.int h]/\c<w*h/\(v=.non\/∃p,PlE K H v p/\jk rs p.R/\p.g≠0/\p.g<2^(w*h))/\(0<w/\w<=8/\0<h/\h<=8)/\∀(g:Nat) H',ao H H'->Q (.int g) H'
variable(eR:Df P w K mg base 3 "_law_make_over" ["_law_cell","_law_at_here","_law_plot","_law_wide","_law_high"] (iz K))
theorem cG:aA ["_law_cell","_law_at_here","_law_plot","_law_wide","_law_high","_law_ground","_law_some","_law_spot"] ["_law_cell","_law_at_here","_law_plot","_law_wide","_law_high"] (ak (top 65)):=by trivial
include B bJ dW az aS in
theorem nC(T:Tx K mg "_law_make_over" (top 65) ["_law_cell","_law_at_here","_law_plot","_law_wide","_law_high"]):Df P w K mg base 3 "_law_make_over" ["_law_cell","_law_at_here","_law_plot","_law_wide","_law_high"] (iz K):=by
 refine T.df cG (by rintro _ _ _ _ ⟨z,c,v,w,h,rs,rfl,hc,hv,⟨hw,hw8,hh,hh8⟩,q⟩;rfl) ?_;rintro f _ A _ s H _ Q E hr ⟨z,c,v,w,h,rs,rfl,hc,hv,⟨hw,hw8,hh,hh8⟩,q⟩;refine aO ?_;intro kX;refine ah 4 (aj (aC (aB dW hr (aa (pv 3) (aa (pv 4) (aa (aq xn (pv 5) (aq f7 ae (pv 7))) (aa (pv 7) ag))))))) ?_;intro kR4 pR4;refine ah 3 (ai (aw (i:=7) cG.nd rfl (by trivial) (aH bD (pv 6) (aB az hr (aa (pv 0) (aa ae (aa (aV bo (by rfl) B.len Hw (aa (pv 6) ag)) ag)))) (fun _ _=>rfl))) pR4) ?_;intro kR3 pR3;refine ah 2 (aY (aT ((kQ (aD pf (pv 2) cL (aE _)) (iQ (aD jH (aq bp (pv 0) ae) ae (aE _)))).pt) (ai (aw (i:=5) cG.nd rfl (by trivial) (aq ij (pv 5) (aH aL (pv 2) ae (fun _ _=>rfl)))) (aj (jQ (i:=6) cG.nd rfl (by trivial) ["_law_k"] [("_law_plot",2)] (fC _ ["_law_plot"]) rfl (by rfl) rfl (by trivial) (by trivial) (aU (by rfl)) (cC (by rfl)) (mC ⟨rfl,rfl⟩ mN) (mC rfl mN) (bE (by decide)) (bN (by rfl) B.range (aa ae ag)) (fun _ _ _ _=>aM (i:=0) (show(["_law_k","_law_plot"]:List Str).Nodup by trivial) rfl (Or.inl rfl) (Or.inr rfl)) (fun _ _ _ _=>iH (dE (aB aS hr (aa (aH (fN (K:=K) rfl) (pv 1) ae (fun _ _=>rfl)) (aa (pv 0) ag))))) (fun _ _ _ _=>(pv 0))))) aG) pR3) ?_;intro kR2 pR2;refine ah 1 (ai (aw (i:=6) cG.nd rfl (by trivial) (cA (aa (pv 1) ag))) pR2) ?_;intro kR1 pR1;refine⟨_,(ai (aw (i:=5) cG.nd rfl (by trivial) (aB bJ hr (aa (aq cg (pv 0) ae) (aa (pv 3) (aa (pv 4) ag))))) pR1),?_⟩;have hwh:w*h<=64:=Nat.mul_le_mul hw8 hh8;have hwp:0<w*h:=Nat.mul_pos hw hh;refine⟨_,rfl,_,_,rfl,rfl,⟨by decide,by decide⟩,_,rfl,_,rfl,z / 2,w,h,rfl,⟨hw,hw8,hh,hh8⟩,fun g H1 hg s1=>?_⟩;refine⟨_,rfl,aK rfl,fun l0 hl0=>?_⟩;have s2:=s1.trans (ao.upd (o:=.lst [.int (c:Nat)]) hl0);have h02:(upd H1 l0 (.lst [.int (c:Nat)])) l0=some (.lst [.int (c:Nat)]):=af;generalize (upd H1 l0 (.lst [.int (c:Nat)]))=H2 at s2 h02 ⊢;refine⟨fun σ' H'=>∃(g:Nat)(ls:Addr)(cs:List Nat),σ'=[some (.int z),some (.int c),some v,some (.int w),some (.int h),some (.int (g:Nat)),some (.ref ls),none]/\ao H H'/\g<2^(w*h)/\SqL K H' ls (NV cs)/\0<cs.length/\cs.length<=64/\∀k∈cs,k<w*h,?_,?_⟩
 ·refine eI ?_;intro kD1;have keep:∃(g1:Nat)(ls:Addr)(cs:List Nat),[some (V.int z),some (V.int c),some v,some (V.int w),some (V.int h),some (V.int (g:Nat)),some (V.ref l0),none]=[some (.int z),some (.int c),some v,some (.int w),some (.int h),some (.int (g1:Nat)),some (.ref ls),none]/\ao H H2/\g1<2^(w*h)/\SqL K H2 ls (NV cs)/\0<cs.length/\cs.length<=64/\∀k∈cs,k<w*h:=
   ⟨g,l0,[c],rfl,s2,hg,SqL.of h02,Nat.zero_lt_one,GP rfl,fun k hk=>by rw[Gk.mp hk];exact hc⟩
  rcases hv with rfl|⟨p,hp,hN,g0,gm⟩
  ·exact⟨_,rfl,rfl,_,rfl,eZ (eZ keep)⟩
  obtain⟨l,l1',lr,rfl,p1,p2,p3⟩:=hp;refine⟨_,rfl,rfl,_,rfl,ip ?_⟩;refine⟨_,rfl,_,_,rfl,rfl,(by show(0:Int)<_;decide),_,_,rfl,rfl,_,rfl,?_⟩;refine bf (fun h1=>?_) (fun h1=>keep);refine⟨_,rfl,_,rfl,l,_,_,_,rfl,rfl,s2.tup p1,au (j:=0) rfl,_,_,rfl,rfl,?_⟩;refine⟨64,rfl,by decide,by decide,fun A hA=>?_⟩;have sA:∀o:HO,ao H2 (upd H2 A o):=fun o=>ao.upd hA;have lf:∀i,i<=64->((List.range i).filter p.g.testBit).length<=64:=fun i hi=>G0 (HS _ _) (by rw[Hx];lia);refine kJ (n:=64) (lo:=0) (fun i acc H3=>H3=upd H2 A (.lst acc)/\acc=NV ((List.range i).filter p.g.testBit)) ⟨rfl,rfl⟩ ?_ ?_
  ·rintro i acc H3 hi ⟨rfl,rfl⟩;rw[show(0:Int)+(i:Int)=((i:Nat):Int) by omega];refine dM ?_;intro kq2 kr2;refine⟨_,rfl,l,_,_,_,rfl,rfl,(s2.trans (sA _)).tup p1,au (j:=0) rfl,_,rfl,p.g,i,rfl,by lia,_,rfl,?_⟩;refine bf (fun h3=>?_) (fun h3=>⟨rfl,?_⟩)
   ·refine⟨_,rfl,af,?_,by rw[aZ],?_⟩
    ·rw[Gh];exact aF (by have:=lf i (by omega);lia)
    ·rw[Ic,Hy,fK];simp[h3]
   ·rw[Ic,Hy,fK];simp[h3]
  rintro acc H3 ⟨rfl,rfl⟩;have posF:0<((List.range 64).filter p.g.testBit).length:=by have b1:LM.cb p.g<w*h:=f9 gm hwh g0;have:LM.cb p.g∈(List.range 64).filter p.g.testBit:=HK.mpr ⟨G7.mpr (by lia),(cM (Gx gm (Hb (by decide) hwh)) g0).1⟩;exact List.length_pos_of_mem this
  refine⟨g&&& p.g,A,(List.range 64).filter p.g.testBit,?_,s2.trans (sA _),Nat.lt_of_le_of_lt Nat.and_le_left hg,SqL.of af,posF,lf 64 (Gr _),fun k hk=>?_⟩
  ·rw[<-fb];rfl
  ·have hb:=(HK.mp hk).2;by_cases y:k<w*h
   ·exact y
   ·exfalso;rw[Nat.testBit_lt_two_pow (Gx gm (Hb (by decide) (by lia)))]at hb;cases hb
 rintro σ' H3 ⟨g1,ls,cs,rfl,s3,hg1,hls,pos,l64,mem⟩;refine⟨_,rfl,_,rfl,_,rfl,ls,NV cs,rfl,.inl hls,z,149,(NV cs).length,rfl,by rw[Gh];exact pos,by decide,fun k hk=>?_⟩;rw[Gh]at hk;have tm:=mem _ (Ig hk);refine⟨ls,_,_,_,rfl,rfl,hls,au (by rw[GX,GB hk];rfl),?_⟩;generalize cs[k]=t at tm;refine⟨_,rfl,_,rfl,_,rfl,_,rfl,_,_,rfl,rfl,⟨by omega,by lia,by decide⟩,_,_,rfl,rfl,_,rfl,w,h,g1||| 2^t,t,?_,⟨hw,hw8,hh8⟩,?_,?_,fun p' H' _ s'=>q p' H' (s3.trans s')⟩
 ·exact congrArg (fun x=>[V.int w,V.int h,V.int x,V.int t]) (or_eq g1 t)
 ·exact Nat.or_lt_two_pow hg1 (Nat.pow_lt_pow_right (by decide) tm)
 ·rw[Nat.testBit_or,Nat.testBit_two_pow_self];simp
def jw(K:Frag):Sp:=fun vs H Q _=>∃(lw lp sg:Addr)(t:V)(num since:Int)(L:dY)(ss:List Str)(xs:List V)(ps:List Plt)(rs:List (List Key)),vs=[.ref lw,.ref lp]/\SqT K H lw (Du t num since sg L)/\SqT K H sg (SV ss)/\(∀x∈ss,PyData.canLay0 (.str x)=true)/\SqL K H lp xs/\Paired (PlE K H) xs ps/\(∀p∈ps,PlG rs p/\A3 p.S)/\(∀r∈rs,aN r≠0)/\L.c<64/\lR L/\(L.kd≠("way":Str)->L.ov=0)/\∀o v H',ao H H'->fZ ps L num since ss o->IsD K H' (outD o) v->Q v H'
variable(fR:Df P w K mg base 3 "_law_lay_due" ["_law_row","_law_plots"] (jw K))
theorem bY:aA ["_law_row","_law_plots","_law_plot","_law_cells","_law_who","_law_burden","_law_columns","_law_k"] ["_law_row","_law_plots"] (ak (top 69)):=by trivial
include B cR fP fS i6 i8 aS bH in
theorem qd(T:Tx K mg "_law_lay_due" (top 69) ["_law_row","_law_plots"]):Df P w K mg base 3 "_law_lay_due" ["_law_row","_law_plots"] (jw K):=by
 refine T.df bY (by rintro _ _ _ _ ⟨lw,lp,sg,t,num,since,L,ss,xs,ps,rs,rfl,hw,hs,ls,hl,pp,hG,h0,hc,hL,hov,q⟩;rfl) ?_;rintro f _ A _ s H _ Q E hr ⟨lw,lp,sg,t,num,since,L,ss,xs,ps,rs,rfl,hw,hs,ls,hl,pp,hG,h0,hc,hL,hov,q⟩;have hu:=hr.units;refine aO ?_;intro kX;refine ah 13 (aj (aC (aX (aa aR (aa (aX (aa (aX (aa (pv 2) ag)) (aa (aX (aa (aX (aa (aH aL (pv 2) ae (fun _ _=>rfl)) (aa (aH aL (pv 2) ae (fun _ _=>rfl)) (aa (aB bH hr (aa (pv 6) ag)) (aa (aH aL (pv 0) ae (fun _ _=>rfl)) ag))))) ag)) (aa (aX ag) ag)))) ag))))) ?_;intro kR13 pR13;refine ah 12 (ai (aT (aD jH (aV (yT rfl) (by rfl) B.max boot_max (aa (bR ["_law_k"] [("_law_columns",6)] (fC _ ["_law_columns"]) rfl (by rfl) rfl (by trivial) (by trivial) (aU (by rfl)) (cC (by rfl)) (mC ⟨rfl,rfl⟩ mN) (mC rfl mN) (bE (by decide)) (dJ (aV (LT.lP rfl) (by rfl) B.sorted (by trivial) (aa (pv 6) ag))) (fun _ _ _ _=>aM (i:=0) (show(["_law_k","_law_columns"]:List Str).Nodup by trivial) rfl (Or.inl rfl) (Or.inr rfl)) (fun _ _ _ _=>bQ) (fun _ _ _ _=>(aV (kK (K:=K) rfl) (by rfl) B.len Hw (aa (mG (kG hr) (pv 1) (pv 0) (fun _ _=>rfl)) ag)))) ag)) ae (aE _)) (aj (aC (aX (aa aR (aa aR (aa aR ag)))))) aG) pR13) ?_;intro kR12 pR12;refine ah 11 (ai (cq GW rfl (dJ (aV (LT.lP rfl) (by rfl) B.sorted (by trivial) (aa (pv 6) ag))) (aM (i:=7) bY.nd rfl (by trivial)) (aj (mD (kG hr) (pv 6) (pv 7) (aB i6 hr (aa (mG (kG hr) (pv 6) (pv 7) (fun _ _=>rfl)) (aa (aH aL (pv 0) ae (fun _ _=>rfl)) (aa (pv 5) (aa (aB aS hr (aa (pv 3) (aa (pv 7) ag))) ag))))) rfl))) pR12) ?_;intro kR11 pR11;refine ah 10 (ai (aw (i:=6) bY.nd rfl (by trivial) (aB fS hr (aa (pv 2) ag))) pR11) ?_;intro kR10 pR10;refine ah 9 (ai (aw (i:=5) bY.nd rfl (by trivial) (aX (aa (aH aL (pv 0) ae (fun _ _=>rfl)) (aa (aH aL (pv 0) ae (fun _ _=>rfl)) (aa (aH aL (pv 0) ae (fun _ _=>rfl)) (aa (aH aL (pv 0) ae (fun _ _=>rfl)) (aa (aH aL (pv 0) ae (fun _ _=>rfl)) ag))))))) pR10) ?_;intro kR9 pR9;refine ah 8 (ai (aT (aD pf (pv 4) cL (aE _)) (aj (aC (aX (aa aR (aa aR (aa (pv 4) ag)))))) aG) pR9) ?_;intro kR8 pR8;refine ah 7 (ai (aw (i:=4) bY.nd rfl (by trivial) (aB fP hr (aa (bR ["_law_name_here","_law_share"] [] (fC _ []) rfl (by rfl) rfl (by trivial) (by trivial) (aU (by rfl)) (cC (by rfl)) mN mN (Bg (by decide) (by decide) (by decide)) (eF (aH aL (pv 2) ae (fun _ _=>rfl))) (fun _ _ _ _=>BK (K:=K) rfl rfl (cV (aM (i:=0) (show(["_law_name_here","_law_share"]:List Str).Nodup by trivial) rfl (Or.inl rfl) (Or.inr rfl)) (cV (aM (i:=1) (show(["_law_name_here","_law_share"]:List Str).Nodup by trivial) rfl (Or.inl rfl) (Or.inr rfl)) jS))) (fun _ _ _ _=>bQ) (fun _ _ _ _=>(pv 0))) (aa (aH aL (pv 0) ae (fun _ _=>rfl)) ag)))) pR8) ?_;intro kR7 pR7;refine ah 6 (aY (aT ((kQ (aD fW (aH aL (pv 0) ae (fun _ _=>rfl)) ae (aE _)) (iQ (pY (dE (aB i8 hr (aa (pv 2) (aa (pv 0) ag))))))).pt) (aj (aC (aX (aa aR (aa aR (aa aR ag)))))) aG) pR7) ?_;intro kR6 pR6;refine ah 5 (ai (aT (aD fW (aq ij (pv 3) (aH aL (pv 2) ae (fun _ _=>rfl))) (pv 3) (aE _)) (aj (aC (aX (aa aR (aa aR (aa aR ag)))))) aG) pR6) ?_;intro kR5 pR5;refine ah 4 (aY (aT (aD cj (aH aL (pv 0) ae (fun _ _=>rfl)) aR (aE _)) (aj (aw (i:=3) bY.nd rfl (by trivial) (aH aL (pv 0) ae (fun _ _=>rfl)))) aG) pR5) ?_;intro kR4 pR4;refine ah 3 (ai (aw (i:=3) bY.nd rfl (by trivial) (aH aL (pv 2) ae (fun _ _=>rfl))) pR4) ?_;intro kR3 pR3;refine ah 2 (ai (aT ((kQ (aD fW (aH aL (pv 0) ae (fun _ _=>rfl)) ae (aE _)) (iQ (aD fW (aH aL (pv 0) ae (fun _ _=>rfl)) (aH aL (pv 2) ae (fun _ _=>rfl)) (aE _)))).pt) (aj (aC (aX (aa aR (aa aR (aa aR ag)))))) aG) pR3) ?_;intro kR2 pR2;refine ah 1 (ai (aT (aD ig (pv 2) cL (aE _)) (aj (aC (aX (aa aR (aa aR (aa aR ag)))))) aG) pR2) ?_;intro kR1 pR1;refine⟨_,(ai (aw (i:=2) bY.nd rfl (by trivial) (aB cR hr (aa (pv 1) (aa (aH aL (pv 0) ae (fun _ _=>rfl)) ag)))) pR1),?_⟩;refine⟨_,rfl,_,rfl,lw,_,_,_,rfl,rfl,hw,au (j:=4) rfl,lp,xs,_,L.c,rfl,.inl hl,vT pp,HQ hc,?_⟩;rcases qv (c:=L.c) pp with⟨e,efn⟩|⟨v,p,ev,nn,hfd,hp,mp⟩
 ·rw[e];exact⟨_,rfl,rfl,_,rfl,ip ⟨aK rfl,fun t0 ht0=>q (.falls "waste" "") _ _ ((ao.refl _).trans (ao.upd ht0)) (.waste efn) (.tup (SqT.of af) (.cons (.str _) (.cons (.str _) (.cons (.str _) .nil))))⟩⟩
 rw[ev];obtain⟨G,hS⟩:=hG p mp;obtain⟨f,hf,hfb⟩:=G.st;obtain⟨l,l1',lr,rfl,p1,p2,p3⟩:=id hp;refine⟨_,rfl,rfl,_,rfl,eZ ?_⟩;refine⟨_,rfl,lw,_,_,_,rfl,rfl,hw,au (j:=11) rfl,rfl,_,rfl,?_⟩;refine(fun(key:(L.gr=0\/L.gr=(p.g:Int))->_)=>bf (fun h1=>⟨_,rfl,lw,_,_,_,rfl,rfl,hw,au (j:=11) rfl,_,rfl,l,_,_,_,rfl,rfl,p1,au (j:=0) rfl,rfl,_,rfl,bf (fun h2=>?_) (fun h2=>key (.inr (G8 fun y=>h2 (vne.mpr y))))⟩) (fun h1=>eZ (key (.inl (G8 fun y=>h1 (vne.mpr y)))))) ?_
 ·intro hg;refine⟨_,rfl,l,_,_,_,rfl,rfl,p1,au (j:=0) rfl,?_⟩;refine⟨fun σ' H'=>H'=H/\σ'=[some (.ref lw),some (.ref lp),some (.ref l),some (.int (dG p L:Nat)),none,none,none,none],?_,?_⟩
  ·refine eI ?_;intro kD1;refine⟨_,rfl,lw,_,_,_,rfl,rfl,hw,au (j:=5) rfl,rfl,_,rfl,?_⟩;refine bf (fun h1=>?_) (fun h1=>?_)
   ·have ec:dG p L=L.ov:=Gz (V.str.inj (GU h1));exact⟨_,rfl,lw,_,_,_,rfl,rfl,hw,au (j:=9) rfl,rfl,by rw[ec];rfl⟩
   ·have ec:dG p L=p.g:=Gu (fun y=>h1 (GN (congrArg V.str y)));exact⟨rfl,by rw[ec];rfl⟩
  rintro σ' H0 ⟨rfl,rfl⟩;have ea:(fun i j=>V.int (Builtin.bitAnd i j)) ((dG p L:Nat):Int) ((p.g:Nat):Int)=V.int ((dG p L&&& p.g:Nat):Int):=congrArg V.int (fb _ _);refine⟨_,rfl,_,rfl,l,_,_,_,rfl,rfl,p1,au (j:=0) rfl,_,_,rfl,rfl,_,rfl,rfl,_,rfl,?_⟩;refine bf (fun z=>?_) (fun z=>?_)<;>rw[ea]at z
  ·exact⟨aK rfl,fun t0 ht0=>q (.falls "over" "") _ _ ((ao.refl _).trans (ao.upd ht0)) (.over hfd hg fun y=>vne.mp z (by rw[(si hov).mp y])) (.tup (SqT.of af) (.cons (.str _) (.cons (.str _) (.cons (.str _) .nil))))⟩
  have sub:L.ov&&& p.g=L.ov:=(si hov).mpr (by have:=mt vne.mpr z;lia);generalize hcl:dG p L=cl;refine⟨fun σ' H'=>σ'=[some (.ref lw),some (.ref lp),some (.ref l),some (.int (cl:Nat)),none,none,none,none]/\ao H0 H'/\(L.nt=0\/ic p L since),?_,?_⟩
  ·refine eI ?_;intro kD2;refine⟨_,rfl,lw,_,_,_,rfl,rfl,hw,au (j:=10) rfl,rfl,_,rfl,?_⟩;refine bf (fun h1=>?_) (fun h1=>eZ ⟨rfl,ao.refl _,.inl (G8 fun y=>h1 (vne.mpr y))⟩);refine⟨_,rfl,_,rfl,_,t,p,rs,lw,sg,num,since,L,rfl,hp,G.nm,hw,fun H' s'=>⟨fun y=>?_,fun y=>?_⟩⟩
   ·exact⟨_,rfl,eZ ⟨rfl,s',.inr y⟩⟩
   ·exact⟨_,rfl,ip ⟨aK rfl,fun t0 ht0=>q (.falls "note" "") _ _ (s'.trans (ao.upd ht0)) (.of hfd hg sub (.note (vne.mp h1) y)) (.tup (SqT.of af) (.cons (.str _) (.cons (.str _) (.cons (.str _) .nil))))⟩⟩
  rintro σ' H1 ⟨rfl,s1,hfit⟩;obtain⟨vs9,hv9,rv9⟩:=id p2;have lv9:=Gw rv9;have l100:=hS.len;refine⟨_,rfl,l,_,_,_,rfl,rfl,s1.tup p1,au (j:=1) rfl,l1',rfl,⟨_,s1.tup hv9⟩,fun D hD=>?_⟩;have sD:∀o:HO,ao H0 (upd H1 D o):=fun o=>s1.trans (ao.upd hD);refine oH (K:=K) (a:=l1') (xs:=vs9) (fun i acc HA=>HA=upd H1 D (.lst acc)/\acc=SV ((p.S.take i).map (·.1))) ⟨rfl,rfl⟩ (fun i acc HA _ ⟨e,_⟩=>by rw[e];exact(sD _).tup hv9) ?_ ?_
  ·rintro i y acc HA hi ⟨rfl,rfl⟩;refine dM ?_;intro kq3 kr3;obtain⟨p',hp',r1,q1,rfl,h1,h2⟩:=aQ rv9 hi;refine⟨r1,_,rfl,(sD _).tup h1,rfl,_,_,rfl,_,_,rfl,rfl,_,rfl,af,?_,by rw[aZ],?_⟩
   ·show((((p.S.take i).map (·.1)).map V.str).length)<_;rw[Gh,Gh,GR];exact aF (by lia)
   ·rw[GF,hp'];simp[SV]
  rintro acc HA ⟨rfl,rfl⟩;rw[lv9,GL];have s2:=sD (.lst (SV (p.S.map (·.1))));have hD2:(upd H1 D (.lst (SV (p.S.map (·.1))))) D=some (.lst (SV (p.S.map (·.1)))):=af;generalize (upd H1 D (.lst (SV (p.S.map (·.1)))))=H2 at s2 hD2 ⊢;refine⟨_,rfl,lw,_,_,_,rfl,rfl,s2.tup hw,au (j:=3) rfl,D,sg,ss,p.S.map (·.1),rfl,SqL.of hD2,s2.tup hs,ls,hS.lay,?_⟩;refine⟨_,rfl,rfl,_,rfl,?_⟩;cases hx:fF ss (p.S.map (·.1))with
  |some x=>exact ip ⟨_,rfl,aK rfl,fun t0 ht0=>q (.falls "sign" x) _ _ (s2.trans (ao.upd ht0)) (.of hfd hg sub (.sign hfit hx)) (.tup (SqT.of af) (.cons (.str _) (.cons (.str _) (.cons (.str _) .nil))))⟩
  |none=>
  refine eZ ?_;have hw2:=s2.tup hw;refine⟨_,rfl,lw,_,_,_,rfl,rfl,hw2,au (j:=1) rfl,_,rfl,lw,_,_,_,rfl,rfl,hw2,au (j:=5) rfl,_,rfl,lw,_,_,_,rfl,rfl,hw2,au (j:=6) rfl,_,rfl,lw,_,_,_,rfl,rfl,hw2,au (j:=7) rfl,_,rfl,lw,_,_,_,rfl,rfl,hw2,au (j:=8) rfl,aK rfl,fun lb hlb=>?_⟩;have s3:=s2.trans (ao.upd (o:=.tup [.int num,.str L.kd,.str L.hd,.int L.am,.int L.un]) hlb);have bB:bM K (upd H2 lb (.tup [.int num,.str L.kd,.str L.hd,.int L.am,.int L.un])) (.ref lb) (layB num L):=⟨qo hL,lb,rfl,SqT.of af⟩;generalize (upd H2 lb (.tup [.int num,.str L.kd,.str L.hd,.int L.am,.int L.un]))=H3 at s3 bB ⊢;have hf':=Cp hf;have z0:∀i c,f64 f i=some c->∀r∈c,aN r≠0:=fun i c e r hr=>by
   have hi:i<64:=G8 fun y=>by rw[xE f i (by lia)]at e;cases e
   obtain⟨q',hq',e2⟩:=Gm.mp (hf'.all i c hi e);subst e2;exact h0 r (G.nm.sub q' hq' r hr)
  refine⟨_,rfl,_,p,f64 f,rfl,hp.tk s3.tk,hf',xE f,fun d kvs ks H4 s4 fd hd gd ek nk mk k64=>?_⟩;have s34:=s3.trans s4;have lk:ks.length<=64:=by have:=HI (nk.imp G5) (l₂:=List.range 64) fun x hx=>G7.mpr (k64 x hx);rwa[Hx]at this
  have fdH:H0 d=none:=s3.free fd;have upk:(ks.map (fun k:Nat=>(k:Int))).Pairwise (·<=·):=HZ.mpr (nk.imp fun h=>by lia);refine⟨_,rfl,d,kvs,ks.map (fun k:Nat=>(k:Int)),rfl,.inl hd,by rw[ek,HR];rfl,by rw[Gh];lia,upk,fun l4 ns' hl4 pm so=>?_⟩
  have nn':ns'.Nodup:=(pm.nodup_iff).mpr (by
   rw[List.Nodup,HZ]
   exact nk.imp fun h e=>by lia)
  have mem':∀z∈ns',∃k:Nat,z=(k:Int)/\k∈ks:=fun z hz=>by obtain⟨k,hk,e⟩:=Gm.mp (pm.mem_iff.mp hz);exact⟨k,e.symm,hk⟩
  have memk:∀k:Nat,k∈ks->(k:Int)∈ns':=fun k hk=>pm.mem_iff.mpr (Gm.mpr ⟨k,hk,rfl⟩);have s5:=s34.trans (ao.upd (o:=.lst (ns'.map V.int)) hl4);have h5l:(upd H4 l4 (.lst (ns'.map V.int))) l4=some (.lst (ns'.map V.int)):=af;have hd5:=(ao.upd (o:=.lst (ns'.map V.int)) hl4) _ _ hd;have gd5:=gd.tk (ao.upd (o:=.lst (ns'.map V.int)) hl4).tk;have bB5:=(bB.tk s4.tk).tk (ao.upd (o:=.lst (ns'.map V.int)) hl4).tk;generalize (upd H4 l4 (.lst (ns'.map V.int)))=H5 at s5 h5l hd5 gd5 bB5 ⊢;have n4:l4≠d:=fun e=>by rw[e,hd5]at h5l;cases h5l
  refine⟨l4,rfl,⟨_,SqL.of h5l⟩,eJ (K:=K) (a:=l4) (xs:=ns'.map V.int) (fun i σ H6=>∃(o5:Option V)(kvs':List (Key×V)),σ=[some (.ref lw),some (.ref lp),some (.ref l),some (.int (cl:Nat)),some .non,some (.ref lb),some (.ref d),o5]/\ao H0 H6/\TK H5 H6/\H6 l4=some (.lst (ns'.map V.int))/\H6 d=some (.dK kvs')/\GD K H6 kvs' (fun x=>if(x:Int)∈ns'.take i then jJ num p L (f64 f) x else f64 f x)/\(kvs'.map fun q=>kV q.1)=NV ks) ⟨none,kvs,rfl,s5,(ao.refl _).tk,h5l,hd5,?_,ek⟩ (fun i σ H6 _ hPz=>hPz.elim fun _ hPz=>hPz.elim fun _ hPz=>(fun e=>SqL.of e) (hPz.2.2.2.1)) ?_ ?_⟩
  ·have e:(fun x:Nat=>if(x:Int)∈ns'.take 0 then jJ num p L (f64 f) x else f64 f x)=f64 f:=funext fun x=>Gu (fun z=>nomatch z);rw[e];exact gd5
  ·rintro i y σ H6 hi ⟨o5,kvs',rfl,s6,tk6,hl6,hd6,gd6,ek6⟩;refine dw ?_;intro kD4;obtain⟨z,hz,rfl⟩:∃z,ns'[i]?=some z/\y=.int z:=by
    rw[GX]at hi;cases e:ns'[i]? with
    |none=>rw[e]at hi;cases hi
    |some z=>rw[e]at hi;cases hi;exact⟨z,rfl,rfl⟩
   obtain⟨k,rfl,kin⟩:=mem' z (Gp hz);have nin:¬(k:Int)∈ns'.take i:=fun y=>by have nd:=nn';rw[<-List.take_append_drop i ns',List.nodup_append]at nd;exact nd.2.2 _ y _ (by rw[jZ hz];exact Gy ..) rfl
   have tk1:ns'.take (i+1)=ns'.take i++[(k:Int)]:=(by rw[GF,hz];rfl);rcases gd6 k with⟨_,e⟩|⟨b,c',ev',ec,hcv⟩
   ·have e':(if(k:Int)∈ns'.take i then jJ num p L (f64 f) k else f64 f k)=none:=e;rw[Gu nin]at e';have:=(mk k).mp kin;rw[e']at this;cases this
   have ec':f64 f k=some c':=by have e':(if(k:Int)∈ns'.take i then jJ num p L (f64 f) k else f64 f k)=some c':=ec;rwa[Gu nin]at e'
   have good:GoodC c':=by obtain⟨q',hq',e2⟩:=Gm.mp (hf'.all k c' (k64 k kin) ec');rw[<-e2];exact G.nm.good q' hq'
   have el:jJ num p L (f64 f) k=some (vc L.nt (layB num L) (cl.testBit k) c'):=by unfold jJ;rw[ec',hcl];rfl
   have k6:=k64 k kin;have dg:=rA.k (k:=.inl (k:Int)) hd6;rw[ev']at dg;refine⟨_,rfl,_,rfl,d,_,rfl,dg,_,rfl,lw,_,_,_,rfl,rfl,s6.tup hw,au (j:=10) rfl,_,rfl,_,rfl,_,rfl,cl,k,rfl,by lia,b,L.nt,.ref lb,layB num L,cl.testBit k,c',rfl,hcv,good,bB5.tk tk6,fun t7 H7 s7 hc7=>?_⟩;have hd7:=s7 _ _ hd6;have hl7:=s7 _ _ hl6;have gd7:=gd6.tk s7.tk;have tk7:=tk6.trans s7.tk;have s67:=s6.trans s7;have lkv:kvs'.length<=64:=by
    have:=congrArg List.length ek6;rw[Gh,Gh]at this
    lia
   refine⟨_,rfl,_,rfl,d,_,rfl,uw.k (k:=.inl (k:Int)) hd7 (aF (by lia)),?_⟩;have tk8:=TK.dk (o:=.dK (putK kvs' (.inl (k:Int)) (.ref t7))) hd7;refine⟨_,putK kvs' (.inl (k:Int)) (.ref t7),rfl,ao.set fdH s67,tk7.trans tk8,by rw[av n4];exact hl7,af,?_,?_⟩
   ·have e:(fun x:Nat=>if(x:Int)∈ns'.take (i+1)then jJ num p L (f64 f) x else f64 f x)=fun x=>if x=k then some (vc L.nt (layB num L) (cl.testBit k) c')else(fun x:Nat=>if(x:Int)∈ns'.take i then jJ num p L (f64 f) x else f64 f x) x:=funext fun x=>by
     show(if(x:Int)∈ns'.take (i+1)then jJ num p L (f64 f) x else f64 f x)=if x=k then some (vc L.nt (layB num L) (cl.testBit k) c')else if(x:Int)∈ns'.take i then jJ num p L (f64 f) x else f64 f x
     by_cases y:x=k
     ·subst y;rw[Gz (by rw[tk1];exact GQ _ (Gk.mpr rfl)),Gz rfl,el]
     ·have:(x:Int)∈ns'.take (i+1)<->(x:Int)∈ns'.take i:=by
       rw[tk1,Gv,Gk];refine⟨fun w=>w.resolve_right (fun u=>y (by lia)),.inl⟩
      rw[Gu y];simp only[this]
    rw[e];exact GD.put (gd7.tk tk8) (hc7.tk tk8)
   ·have:=congrArg (List.map kV) (yj (v:=.ref t7) ev');rw[HR,HR]at this;exact this.trans ek6
  ·rintro σ H6 ⟨o5,kvs',rfl,s6,tk6,hl6,hd6,gd6,ek6⟩;rw[Gh,GL]at gd6;have e:(fun x:Nat=>if(x:Int)∈ns' then jJ num p L (f64 f) x else f64 f x)=jJ num p L (f64 f):=funext fun x=>by
    by_cases y:x∈ks
    ·rw[Gz (memk x y)]
    ·have:f64 f x=none:=by
      cases w:f64 f x with
      |none=>rfl
      |some c'=>exact absurd ((mk x).mpr (by rw[w];rfl)) y
     unfold jJ;rw[this];split<;>rfl
   rw[e]at gd6;have mg:∀x,x∈ks<->(jJ num p L (f64 f) x).isSome=true:=fun x=>by rw[mk x];unfold jJ;cases f64 f x<;>simp
   generalize hgg:jJ num p L (f64 f)=g at gd6 mg;have fin:∀R',bq g R'->bq (lK num p L (f64 f)) R':=fun R' h=>Aj z0 (by rw[hgg];exact h);refine⟨_,rfl,d,kvs',ks.map (fun k:Nat=>(k:Int)),rfl,.inl hd6,by rw[ek6,HR];rfl,by rw[Gh];omega,upk,fun l7 ns2 hl7 pm2 so2=>?_⟩;have s7:=s6.trans (ao.upd (o:=.lst (ns2.map V.int)) hl7);have h7l:(upd H6 l7 (.lst (ns2.map V.int))) l7=some (.lst (ns2.map V.int)):=af;have hd7:=(ao.upd (o:=.lst (ns2.map V.int)) hl7) _ _ hd6;have gd7:=gd6.tk (ao.upd (o:=.lst (ns2.map V.int)) hl7).tk;generalize (upd H6 l7 (.lst (ns2.map V.int)))=H7 at s7 h7l hd7 gd7 ⊢;have l2:ns2.length=ks.length:=(by rw[pm2.length_eq,Gh]);refine⟨l7,rfl,⟨_,SqL.of h7l⟩,fun A7 hA7=>?_⟩;have sA:∀o:HO,ao H7 (upd H7 A7 o):=fun o=>ao.upd hA7;refine vw (K:=K) (a:=l7) (xs:=ns2.map V.int) (fun i acc H8=>H8=upd H7 A7 (.lst acc)/\acc=((ns2.take i).map fun z:Int=>((((g z.toNat).map List.length).getD 0:Nat):Int)).map V.int) ⟨rfl,rfl⟩ (fun i acc H8 _ ⟨e,_⟩=>by rw[e];exact(sA _).seq (SqL.of h7l)) ?_ ?_
   ·rintro i y acc H8 hi ⟨rfl,rfl⟩;refine dM ?_;intro kq5 kr5;obtain⟨z,hz,rfl⟩:∃z,ns2[i]?=some z/\y=.int z:=by
     rw[GX]at hi;cases e:ns2[i]? with
     |none=>rw[e]at hi;cases hi
     |some z=>rw[e]at hi;cases hi;exact⟨z,rfl,rfl⟩
    obtain⟨k,hk,ez⟩:=Gm.mp (pm2.mem_iff.mp (Gp hz));subst ez;rcases gd7 k with⟨_,e⟩|⟨b,c',ev',ec,hcv⟩
    ·have:=(mg k).mp hk;rw[e]at this;cases this
    have dg:=rA.k (k:=.inl (k:Int)) ((sA (.lst (((ns2.take i).map fun z:Int=>((((g z.toNat).map List.length).getD 0:Nat):Int)).map V.int))) _ _ hd7);rw[ev']at dg;obtain⟨ys,hys,pys⟩:=hcv.bur;have lys:=Gw pys;have il:i<ns2.length:=(GA.mp hz).1;refine⟨_,rfl,_,rfl,d,_,rfl,dg,b,ys,rfl,.inr ((sA _).tup hys),af,aF (by rw[Gh,Gh,GR];lia),by rw[aZ],?_⟩;rw[GF,hz,G3,GK,GK];simp[ec,lys]
   rintro acc H8 ⟨rfl,rfl⟩;rw[Gh,GL];have cin:L.c∈ks:=(mk L.c).mpr (by unfold f64;rw[Gz hc];exact(hfb L.c hc).mpr (px hfd).2);refine⟨A7,_,rfl,SqL.of af,by rw[Gh,l2];exact List.length_pos_of_mem cin,fun m hm hle=>⟨_,_,rfl,rfl,_,rfl,?_⟩⟩;have iff:12<m<->∃i c,i<64/\g i=some c/\12<c.length:=by
    constructor
    ·intro h12;obtain⟨z,hz,ez⟩:=Gm.mp hm;obtain⟨k,hk,e⟩:=Gm.mp (pm2.mem_iff.mp hz);subst e;cases eg:g k with
     |none=>have:=(mg k).mp hk;rw[eg]at this;cases this
     |some c=>rw[Hg,eg]at ez;have ez':((c.length:Nat):Int)=m:=ez;exact⟨k,c,k64 k hk,eg,by lia⟩
    ·rintro⟨i,c,hi,e,hl⟩;have ik:i∈ks:=(mg i).mpr (by rw[e];rfl);have:=hle _ (Gm.mpr ⟨(i:Int),pm2.mem_iff.mpr (Gm.mpr ⟨i,ik,rfl⟩),rfl⟩);rw[Hg,e]at this;have t':((c.length:Nat):Int)<=m:=this
     lia
   have s8:=s7.trans (sA (.lst (((ns2.map fun z:Int=>((((g z.toNat).map List.length).getD 0:Nat):Int))).map V.int)));have hd8:=(sA (.lst (((ns2.map fun z:Int=>((((g z.toNat).map List.length).getD 0:Nat):Int))).map V.int))) _ _ hd7;have gd8:=gd7.tk (sA (.lst (((ns2.map fun z:Int=>((((g z.toNat).map List.length).getD 0:Nat):Int))).map V.int))).tk;generalize (upd H7 A7 (.lst (((ns2.map fun z:Int=>((((g z.toNat).map List.length).getD 0:Nat):Int))).map V.int)))=H8 at s8 hd8 gd8 ⊢;refine bf (fun z=>?_) (fun z=>?_)
   ·exact⟨aK rfl,fun t0 ht0=>q (.falls "many" "") _ _ (s8.trans (ao.upd ht0)) (.of hfd hg sub (.many hfit hx hf' (fin _ (kM g)) ((se (kM g)).mpr (iff.mp (GU z))))) (.tup (SqT.of af) (.cons (.str _) (.cons (.str _) (.cons (.str _) .nil))))⟩
   refine⟨_,rfl,aK rfl,fun t1 ht1=>?_⟩;have s5:=ao.upd (o:=.tup [.ref l]) ht1;have sX:=s8.trans s5;refine⟨_,rfl,l,_,_,_,rfl,rfl,sX.tup p1,au (j:=0) rfl,_,rfl,l,_,_,_,rfl,rfl,sX.tup p1,au (j:=1) rfl,_,rfl,d,kvs',g,ks,rfl,s5 _ _ hd8,gd8.tk s5.tk,ek6,nk,lk,mg,k64,fun b R' H3 s3 hT' hG'=>?_⟩;have sY:=sX.trans s3;refine⟨_,rfl,lw,_,_,_,rfl,rfl,sY.tup hw,au (j:=1) rfl,aK rfl,fun l4 hl4=>?_⟩;have s4:=ao.upd (o:=.tup [.int (p.g:Nat),.ref l1',.ref b,.int num]) hl4;refine⟨aK rfl,fun t2 ht2=>?_⟩;have s6:=ao.upd (o:=.tup [.ref l4]) ht2;refine⟨aK rfl,fun t3 ht3=>?_⟩;have s7:=ao.upd (o:=.tup []) ht3;refine⟨aK rfl,fun t4 ht4=>?_⟩;have s8:=ao.upd (o:=.tup [.ref t1,.ref t2,.ref t3]) ht4;refine⟨aK rfl,fun t5 ht5=>?_⟩;have s9:=ao.upd (o:=.tup [.str "does",.ref t4]) ht5;have s49:=s4.trans (s6.trans (s7.trans (s8.trans s9)));have sZ:=sY.trans s49;have e1:PlE K _ (.ref l) p:=PlE.tk sZ.tk hp;have e2:PlE K _ (.ref l4) ⟨p.g,p.S,R',num⟩:=PlE.tk (s6.trans (s7.trans (s8.trans s9))).tk ⟨l4,l1',b,rfl,SqT.of af,p2.tk (sY.trans s4).tk,hT'.tk s4.tk⟩;exact q (.does p ⟨p.g,p.S,R',num⟩) _ _ sZ (.of hfd hg sub (.does hfit hx hf' (fin _ hG') (fun y=>z (GN (iff.mpr ((se hG').mp y)))))) (.tup (SqT.of af) (.cons (.str _) (.cons (.tup (s9.tup (SqT.of af)) (.cons (.tup ((s3.trans s49).tup (SqT.of af)) (.cons e1.isD .nil)) (.cons (.tup ((s7.trans (s8.trans s9)).tup (SqT.of af)) (.cons e2.isD .nil)) (.cons (.tup ((s8.trans s9).tup (SqT.of af)) .nil) .nil)))) .nil)))
 ·exact⟨aK rfl,fun t0 ht0=>q (.falls "other" "") _ _ ((ao.refl _).trans (ao.upd ht0)) (.other hfd (vne.mp h1) (vne.mp h2)) (.tup (SqT.of af) (.cons (.str _) (.cons (.str _) (.cons (.str _) .nil))))⟩
def kB(K:Frag)(mg:Str->Option Value):Sp:=fun vs H Q E=>∃(l:Addr)(xs:List V)(ps:List Plt)(c:Nat)(gr:Int),vs=[.ref l,.int c,.int gr]/\SqL K H l xs/\Paired (PlE K H) xs ps/\c<=64/\(fnd ps c=none->(∀dx H',ao H H'->H' dx=some (XD dx [("who",.str (Str.ofString "")),("word",.str (Str.ofString "waste"))])->E (rg mg "Falls") (some dx) H'))/\∀p v,fnd ps c=some p->p∈ps->PlE K H v p->((gr=0\/gr=(p.g:Int))->Q v H)/\(gr≠0->gr≠(p.g:Int)->(∀dx H',ao H H'->H' dx=some (XD dx [("who",.str (Str.ofString "")),("word",.str (Str.ofString "other"))])->E (rg mg "Falls") (some dx) H'))
variable(gu:DfN P w K mg base 4 "ask_ground" ["plots","cell","ground"] (kB K mg))
theorem kE:aA ["plots","cell","ground","plot"] ["plots","cell","ground"] (ak (top 32)):=by trivial
include B iW cD bC bu in
theorem rf(T:Tx K mg "ask_ground" (top 32) ["plots","cell","ground"]):DfN P w K mg base 4 "ask_ground" ["plots","cell","ground"] (kB K mg):=by
 refine T.dfN kE (by rintro _ _ _ _ ⟨l,xs,ps,c,gr,rfl,hl,pp,hc,q1,q2⟩;rfl) ?_;rintro f _ A _ s H _ Q E hr ⟨l,xs,ps,c,gr,rfl,hl,pp,hc,q1,q2⟩;refine aO ?_;intro kX;refine ah 2 (aj (aC (pv 3))) ?_;intro kR2 pR2;refine ah 1 (ai (aT ((kQ (aD fW (pv 2) ae (aE _)) (iQ (aD fW (pv 2) (aH aL (pv 3) ae (fun _ _=>rfl)) (aE _)))).pt) (aj (gB (W:=RzW H E) rfl (nu cD hr (aa aR (aa aR (aa aR ag)))) (fun _ _ _ _ _ _ _ I hx ee=>jP I hx ee.1 ee.2))) aG) pR2) ?_;intro kR1 pR1;refine⟨_,(ai (aw (i:=3) kE.nd rfl (by trivial) (vV iW hr (iI fun _ _ _ h=>h) (aa (pv 0) (aa (pv 1) ag)))) pR1),?_⟩;refine⟨_,rfl,_,rfl,l,xs,_,c,rfl,hl,vT pp,hc,fun hne=>?_,fun hno=>?_⟩
 ·rcases qv (c:=c) pp with⟨e,_⟩|⟨v,p,ev,_,hfd,hp,mp⟩
  ·exact absurd e hne
  rw[ev];obtain⟨k1,k2⟩:=q2 p v hfd mp hp;obtain⟨l2,l1',lr,rfl,p1,p2,p3⟩:=id hp;refine⟨_,rfl,rfl,_,rfl,?_⟩;refine bf (fun h0=>?_) (fun h0=>?_)
  ·refine⟨_,rfl,_,rfl,l2,_,_,_,rfl,rfl,p1,au (j:=0) rfl,rfl,_,rfl,?_⟩;refine bf (fun h1=>?_) (fun h1=>?_)
   ·exact⟨aK rfl,gw bC bu (ao.refl _) (k2 (fun y=>vne.mp h0 (by lia)) (fun y=>vne.mp h1 (by lia)))⟩
   ·exact⟨_,rfl,k1 (.inr (by have:=mt vne.mpr h1;lia))⟩
  ·exact eZ ⟨_,rfl,k1 (.inl (by have:=mt vne.mpr h0;lia))⟩
 ·rcases qv (c:=c) pp with⟨_,e⟩|⟨v,p,ev,nn,_⟩
  ·exact q1 e
  ·exact absurd (ev.symm.trans hno) nn
def je(K:Frag)(mg:Str->Option Value):Sp:=fun vs H Q E=>∃(a C dx sg:Addr)(num since:Int)(L:dY)(tr:V)(v:V)(p:Plt)(rs:List (List Key)),vs=[.ref a,v]/\H a=some (.ins C dx (mL num since sg L tr))/\rn K mg C/\PlE K H v p/\jk rs p.R/\(ic p L since->∀H',ao H H'->Q .non H')/\(¬ic p L since->(∀dx H',ao H H'->H' dx=some (XD dx [("who",.str (Str.ofString "")),("word",.str (Str.ofString "note"))])->E (rg mg "Falls") (some dx) H'))
variable(fA:DfT P w K mg base (CXn P w) 4 aP "ask_note" ["self","plot"] (je K mg) [])
theorem jg:aA ["self","plot","note"] ["self","plot"] (ak fq):=by trivial
include B ia cD cf bC bu in
theorem oS(T:TxM K aP "ask_note" "Lay.ask_note" fq ["self","plot"] []):DfT P w K mg base (CXn P w) 4 aP "ask_note" ["self","plot"] (je K mg) []:=by
 refine T.dfN jg (by rintro _ _ _ _ ⟨a,C,dx,sg,num,since,L,tr,v,p,rs,rfl,ha,D,hp,hN,q1,q2⟩;rfl) ?_;rintro f _ A _ s H _ Q E hr ⟨a,C,dx,sg,num,since,L,tr,v,p,rs,rfl,ha,D,hp,hN,q1,q2⟩;refine aO ?_;intro kX;refine ah 1 (aj (aT ((mB (aD ig (pv 2) cL (aE _)) (mB (aD fW (aH aL (pv 2) ae (fun _ _=>rfl)) aR (aE _)) (mB (aD fW (aH aL (pv 2) ae (fun _ _=>rfl)) (c8 (pv 0) rfl) (aE _)) (kP (aD rS (aH aL (pv 2) ae (fun _ _=>rfl)) (c8 (pv 0) rfl) (aE _)))))).pt) (aj (gB (W:=RzW H E) rfl (nu cD hr (aa aR (aa aR (aa aR ag)))) (fun _ _ _ _ _ _ _ I hx ee=>jP I hx ee.1 ee.2))) aG)) ?_;intro kR1 pR1;refine⟨_,(ai (aw (i:=2) jg.nd rfl (by trivial) (aB ia hr (aa (pv 1) (aa (c8 (pv 0) rfl) ag)))) pR1),?_⟩;refine⟨_,rfl,_,rfl,a,C,dx,_,_,rfl,ha,D.pap.cls,D.nt,rfl,v,p,rs,L.nt,rfl,hp,hN,fun H1 s1=>⟨fun vb r on hr bur=>?_,fun hn=>?_⟩⟩
 ·replace ha:=s1 _ _ ha;obtain⟨q0,hq0,hr0⟩:=id on;have ib:=hN.bur r (hN.sub q0 hq0 r hr0);have RZ:¬Ec L since r->¬ic p L since:=fun h ⟨r',on',f'⟩=>h (by rw[xo hN on on' (by rw[hr,f'.1])];exact f');obtain⟨n,k,x,m,u,rfl⟩:=ib;obtain⟨lay,ab,rfl,hb⟩:=bur;refine⟨_,rfl,rfl,_,rfl,eZ ?_⟩;refine⟨_,rfl,ab,_,_,_,rfl,rfl,hb,au (j:=1) rfl,rfl,_,rfl,?_⟩;refine bf (fun z=>?_) (fun z1=>?_)
  ·exact⟨aK rfl,gw bC bu s1 fun dx' H' s' hd=>q2 (RZ fun y=>C8.mp z y.2.1) dx' H' (s1.trans s') hd⟩
  refine⟨_,rfl,ab,_,_,_,rfl,rfl,hb,au (j:=2) rfl,_,rfl,a,C,dx,_,_,rfl,ha,D.pap.cls,D.hd,rfl,rfl,_,rfl,?_⟩;refine bf (fun z=>?_) (fun z2=>?_)
  ·exact⟨aK rfl,gw bC bu s1 fun dx' H' s' hd=>q2 (RZ fun y=>C8.mp z y.2.2.1) dx' H' (s1.trans s') hd⟩
  refine⟨_,rfl,ab,_,_,_,rfl,rfl,hb,au (j:=4) rfl,_,rfl,a,C,dx,_,_,rfl,ha,D.pap.cls,D.pap.sin,rfl,_,_,rfl,rfl,_,rfl,?_⟩;refine bf (fun z=>?_) (fun z3=>?_)
  ·exact⟨aK rfl,gw bC bu s1 fun dx' H' s' hd=>q2 (RZ fun y=>Int.not_le.mpr (GU z) y.2.2.2) dx' H' (s1.trans s') hd⟩
  ·exact q1 ⟨_,on,hr,CL z1,CL z2,Int.not_lt.mp fun y=>z3 (GN y)⟩ _ s1
 ·refine⟨_,rfl,rfl,_,rfl,ip ?_⟩;exact⟨aK rfl,gw bC bu s1 fun dx' H' s' hd=>q2 (fun⟨r,on,y⟩=>hn r on y.1) dx' H' (s1.trans s') hd⟩
def hJ(K:Frag):Sp:=fun vs H Q _=>∃(a:Addr)(ns:List Int)(w h:Nat)(z:Int),vs=[.ref a,.int w,.int h,.int z]/\SqL K H a (ns.map V.int)/\(0<w/\w<=8/\0<h/\h<=8)/\∀l vs ps rs H',ao H H'->H l=none->H' l=some (.lst vs)->Paired (PlE K H') vs ps->qE w h ((List.range 6).map (g9 z)) rs ps->(∀p∈ps,PlG rs p)->(∀r∈rs,aN r≠0)->Q (.ref l) H'
variable(d9:Df P w K mg base 4 "_law_make_plots" ["_law_script","_law_wide","_law_high","_law_way"] (hJ K))
theorem bw:aA ["_law_script","_law_wide","_law_high","_law_way","_law_ground","_law_some","_law_seed","_law_pool","_law_found","_law_k","_law_cell"] ["_law_script","_law_wide","_law_high","_law_way"] (ak (top 54)):=by trivial
include B bJ aJ fz bK az eQ in
theorem mH(T:Tx K mg "_law_make_plots" (top 54) ["_law_script","_law_wide","_law_high","_law_way"]):Df P w K mg base 4 "_law_make_plots" ["_law_script","_law_wide","_law_high","_law_way"] (hJ K):=by
 refine T.df bw (by rintro _ _ _ _ ⟨a,ns,w,h,z,rfl,hS,⟨hw,hw8,hh,hh8⟩,q⟩;rfl) ?_;rintro f _ A _ s H _ Q E hr ⟨a,ns,w,h,z,rfl,hS,⟨hw,hw8,hh,hh8⟩,q⟩;refine aO ?_;intro kX;refine ah 7 (aj (aC (pv 8))) ?_;intro kR7 pR7;refine ah 6 (aY (aT (aD cj (aB az hr (aa (pv 6) (aa ae (aa ae ag)))) ae (aE _)) (aj (cO (vW G4 PySem.F.slot_list_reverse PySem.F.type_list_reverse wc (pv 8)))) aG) pR7) ?_;intro kR6 pR6;refine bS 5 1 (aj (aT (aD jH (aB az hr (aa (pv 10) (aa ae (aa ae ag)))) ae (aE _)) (aj (cO (jh G4 He Hd cH (pv 8) (aa (aB eQ hr (aa (aH bD (pv 5) (pv 9) (fun _ _=>rfl)) (aa (pv 10) (aa (pv 7) (aa (pv 3) (aa (aq bg ae (aq bp (aq bg (pv 6) (aq cu (aq cg (pv 9) ae) ae)) (aq iU ae ae))) ag)))))) ag)))) aG)) ?_;intro kS5x1 pS5x1;refine bS 5 0 (ai (aw (i:=10) bw.nd rfl (by trivial) (aB aJ hr (aa (pv 0) (aa (aq bg ae (pv 9)) ag)))) pS5x1) ?_;intro kS5x0 pS5x0;refine ah 5 (ai (cq GW rfl (bN (by rfl) B.range (aa (aV (yS rfl) (by rfl) B.min boot_min (aa (aV bo (by rfl) B.len Hw (aa (pv 5) ag)) (aa ae ag))) ag)) (aM (i:=9) bw.nd rfl (by trivial)) pS5x0) pR6) ?_;intro kR5 pR5;refine ah 4 (ai (aw (i:=8) bw.nd rfl (by trivial) (cA ag)) pR5) ?_;intro kR4 pR4;refine ah 3 (ai (jQ (i:=7) bw.nd rfl (by trivial) ["_law_k"] [("_law_seed",6),("_law_way",3)] (fC _ ["_law_way","_law_seed"]) rfl (by rfl) rfl (by trivial) (by trivial) (aU (by rfl)) (cC (by rfl)) (mC ⟨rfl,rfl⟩ (mC ⟨rfl,rfl⟩ mN)) (mC rfl (mC rfl mN)) (bE (by decide)) (bN (by rfl) B.range (aa ae ag)) (fun _ _ _ _=>aM (i:=0) (show(["_law_k","_law_seed","_law_way"]:List Str).Nodup by trivial) rfl (Or.inl rfl) (Or.inr rfl)) (fun _ _ _ _=>bQ) (fun _ _ _ _=>(aB bK hr (aa (pv 0) (aa (pv 1) (aa (pv 2) ag)))))) pR4) ?_;intro kR3 pR3;refine ah 2 (ai (aw (i:=6) bw.nd rfl (by trivial) (aB aJ hr (aa (pv 0) (aa ae ag)))) pR3) ?_;intro kR2 pR2;refine ah 1 (ai (aw (i:=5) bw.nd rfl (by trivial) (aq zV (aB fz hr (aa (pv 1) (aa (pv 2) (aa (pv 4) ag)))) (aB fz hr (aa (pv 1) (aa (pv 2) (aa (aq eY (aq eY (aq f7 ae (aq cu (pv 1) (pv 2))) ae) (pv 4)) ag)))))) pR2) ?_;intro kR1 pR1;refine⟨_,(ai (aw (i:=4) bw.nd rfl (by trivial) (aB bJ hr (aa (aB aJ hr (aa (pv 0) (aa ae ag))) (aa (pv 1) (aa (pv 2) ag))))) pR1),?_⟩;have hwh:w*h<=64:=Nat.mul_le_mul hw8 hh8;refine⟨_,rfl,a,ns,1,rfl,hS,_,rfl,_,rfl,_,w,h,rfl,⟨hw,hw8,hh,hh8⟩,fun G H1 hG s1=>?_⟩;refine⟨_,rfl,_,rfl,_,rfl,w,h,G,rfl,⟨hw,hw8,hh8⟩,hG,fun l1 ps H2 n2 s2 hl1 hp1=>?_⟩;have pos:0<2^(w*h):=Nat.two_pow_pos _;have es:1*(2:Int)^((w:Int)*(h:Int)).toNat-1-(G:Int)=((dif (2^(w*h)-1) G:Nat):Int):=by
  rw[<-zD _ _ hG,Int.one_mul,show((w:Int)*(h:Int)).toNat=w*h by rw[show(w:Int)*(h:Int)=((w*h:Nat):Int) by simp];exact Hg _];have:((2^(w*h):Nat):Int)=(2:Int)^(w*h):=by simp
  omega
 refine⟨_,rfl,_,rfl,_,rfl,_,rfl,_,_,rfl,rfl,.inl ⟨by lia,by lia⟩,_,_,rfl,rfl,⟨?_,?_,by decide⟩,_,_,rfl,rfl,_,rfl,_,_,rfl,rfl,w,h,dif (2^(w*h)-1) G,?_,⟨hw,hw8,hh8⟩,?_,fun l2 qs H3 n3 s3 hl2 hp2=>?_⟩
 ·have e1:(w:Int)*(h:Int)=((w*h:Nat):Int):=by simp
  rw[e1];lia
 ·have e1:(w:Int)*(h:Int)=((w*h:Nat):Int):=by simp
  rw[e1];lia
 ·simp only[es]
 ·exact nQ (by omega)
 obtain⟨b1,b2,b3,lp,lq⟩:=wL hw hG hwh hp1 hp2;refine⟨l1,l2,_,_,rfl,rfl,s3 _ _ hl1,hl2,?_,fun l3 hl3=>?_⟩
 ·rw[Gh,Gh];exact HQ (aF (by lia))
 rw[<-fK];have s4:=s1.trans (s2.trans (s3.trans (ao.upd (o:=.lst (NV (ps++qs))) hl3)));have h4:(upd H3 l3 (.lst (NV (ps++qs)))) l3=some (.lst (NV (ps++qs))):=af;have lps:(ps++qs).length<=128:=by rw[Gn];lia
 generalize (upd H3 l3 (.lst (NV (ps++qs))))=H4 at s4 h4 ⊢;generalize ps++qs=gs at b1 b2 b3 h4 lps ⊢;refine⟨_,rfl,a,ns,2,rfl,s4.seq hS,?_⟩;refine⟨13,rfl,by decide,by decide,fun A hA=>?_⟩;refine kJ (n:=13) (lo:=0) (fun i acc H5=>ao H4 H5/\H5 A=some (.lst acc)/\∃rs:List (List Key),Paired (bM K H5) acc rs/\rs.length=i/\(∀r∈rs,eE r)/\rs.map aN=(List.range i).map fun k:Nat=>qg (k:Nat) (ns.getD 2 0)) ⟨ao.upd hA,af,[],.nil,rfl,(fun _ y=>nomatch y),rfl⟩ ?_ ?_
 ·rintro i acc H5 hi ⟨s5,h5,rs,pr,lr,br,nr⟩;rw[show(0:Int)+(i:Int)=((i:Nat):Int) by omega];refine dM ?_;intro kq1 kr1;refine⟨_,rfl,_,rfl,_,rfl,i,_,_,rfl,by lia,fun lb r H6 s6 hb hlay hbur hnum=>?_⟩;have h6:=s6 _ _ h5;have tk:=TK.lst (o:=.lst (acc++[.ref lb])) h6;have la:=Gw pr;refine⟨h6,aF (by lia),?_,af,rs++[r],?_,by rw[Gn,lr];rfl,fun x hx=>?_,by rw[GK,nr,Ic,GK,List.map_singleton,List.map_singleton,hnum]⟩
  ·intro b o e;rw[av (fun y=>by rw[y,hA]at e;cases e)];exact s6 _ _ (s5 _ _ e)
  ·exact Paired.app (Paired.imp (fun _ _ y=>(y.tk s6.tk).tk tk) pr) (.cons (bM.tk tk ⟨hlay,lb,rfl,SqT.of hb⟩) .nil)
  ·rcases Gv.mp hx with y|y
   ·exact br x y
   ·rw[Gk.mp y];exact hbur
 rintro acc H5 ⟨s5,h5,rs,pr,lr,br,nr⟩;have pos0:∀r∈rs,aN r≠0:=fun r hr=>by have:=HM (f:=aN) hr;rw[nr]at this;obtain⟨k,_,e⟩:=Gm.mp this;rw[<-e];exact BX _ _
 have nd13:(rs.map aN).Nodup:=by rw[nr];exact DN _
 refine⟨aK rfl,fun lf hlf=>?_⟩;have s6:=ao.upd (o:=.lst []) hlf;have h46:(upd H5 lf (.lst [])) l3=some (.lst (NV gs)):=s6 _ _ (s5 _ _ h4);have fr:H lf=none:=(s4.trans s5).free hlf;obtain⟨n,en,n8,nl⟩:∃n:Nat,(if(8:Int)<(((NV gs).length:Nat):Int)then(8:Int)else(((NV gs).length:Nat):Int))=(n:Nat)/\n<=8/\n<=gs.length:=by
  rw[Gh];split
  ·exact⟨8,rfl,by lia,by lia⟩
  ·exact⟨gs.length,rfl,by lia,by lia⟩
 refine⟨_,rfl,l3,_,rfl,.inl (SqL.of h46),_,_,rfl,n,congrArg (fun x=>[V.int x]) en,by lia,by lia,?_⟩;rw[Hg];refine gE (lo:=0) (fun i σ H7=>∃(o9 o10:Option V)(vs:List V)(pl:List Plt),σ=[some (.ref a),some (.int w),some (.int h),some (.int z),some (.int (G:Nat)),some (.ref l3),some (.int (ns.getD 2 0)),some (.ref A),some (.ref lf),o9,o10]/\ao H5 H7/\H7 lf=some (.lst vs)/\Paired (PlE K H7) vs pl/\(pl.map (·.g)).Sublist (gs.take i)/\pl.length<=i/\∀p∈pl,wR ((List.range 6).map (g9 z)) rs p/\1<=p.last/\p.last<=1000000000/\PlG rs p) ⟨none,none,[],[],rfl,s6,af,.nil,.slnil,Gr _,fun _ y=>nomatch y⟩ ?_ ?_
 ·rintro i σ H7 hi ⟨o9,o10,vs,pl,rfl,s7,hf7,pp,sub,lpl,po⟩;rw[show(0:Int)+(i:Int)=((i:Nat):Int) by omega];refine dw ?_;intro kD2;have hS7:=(s4.trans (s5.trans s7)).seq hS;obtain⟨g,hg⟩:∃g,gs[i]?=some g:=⟨gs[i]'(by lia),GB (by omega)⟩;have hat:atI (NV gs) ((i:Nat):Int)=some (.int (g:Nat)):=au (by rw[GX,hg];rfl);have g64:g<2^64:=Gx (b1 g (Gp hg)).2 (Hb (by decide) hwh);have tk1:gs.take (i+1)=gs.take i++[g]:=by rw[GF,hg];rfl
  refine⟨_,rfl,_,rfl,_,_,rfl,rfl,a,ns,8+i,rfl,hS7,?_⟩;refine⟨_,rfl,_,95,5,rfl,by decide,by decide,fun j hj=>⟨_,_,rfl,rfl,_,rfl,?_⟩⟩;refine bf (fun h1=>?_) (fun h1=>?_)
  ·have m0:=Hs (ns.getD 2 0+((i:Nat):Int) / 2*1000003) (show((10:Int)^(9:Int).toNat)≠0 by decide);have m1:=Hz (ns.getD 2 0+((i:Nat):Int) / 2*1000003) (show 0<((10:Int)^(9:Int).toNat) by decide);have e9:((10:Int)^(9:Int).toNat)=1000000000:=(by decide);refine⟨_,rfl,.inl ⟨rfl,_,SqL.of hf7⟩,_,rfl,_,rfl,l3,_,_,_,rfl,rfl,SqL.of (s7 _ _ (s5 _ _ h4)),hat,_,rfl,_,rfl,_,rfl,_,rfl,_,rfl,_,_,rfl,rfl,⟨by decide,by decide⟩,_,_,rfl,rfl,.inr ⟨by decide,by decide⟩,_,_,rfl,rfl,_,_,rfl,rfl,⟨by decide,by decide,by decide⟩,_,_,rfl,rfl,(by show(0:Int)<_;decide),_,_,rfl,rfl,?_⟩;refine⟨g,_,z,_,A,acc,rs,rfl,g64,SqL.of (s7 _ _ h5),Paired.imp (fun _ _=>bM.tk s7.tk) pr,lr,fun v p H8 s8 hp ok nc n2 eg el=>?_⟩;have hf8:=s8 _ _ hf7;have la:=Gw pp;have tk:=TK.lst (o:=.lst (vs++[v])) hf8;refine⟨lf,_,_,rfl,rfl,hf8,aF (by lia),?_⟩;refine⟨_,_,vs++[v],pl++[p],rfl,?_,af,?_,?_,by rw[Gn,HC];lia,fun x hx=>?_⟩
   ·intro b o e;rw[av (fun y=>by rw[y,hlf]at e;cases e)];exact s8 _ _ (s7 _ _ e)
   ·exact Paired.app (Paired.imp (fun _ _ y=>(y.tk s8.tk).tk tk) pp) (.cons (hp.tk tk) .nil)
   ·rw[tk1,GK];refine List.Sublist.append sub ?_;rw[List.map_singleton,eg];exact List.Sublist.refl _
   ·rcases Gv.mp hx with y|y
    ·exact po x y
    ·rw[Gk.mp y];refine⟨ok,?_,?_,Dy ok br lr nd13 (nc nd13) n2⟩
     ·rw[el];lia
     ·rw[el];lia
  ·refine⟨_,_,vs,pl,rfl,s7,hf7,pp,?_,by lia,po⟩;rw[tk1];exact sub.trans (List.sublist_append_left _ _)
 ·rintro σ H7 ⟨o9,o10,vs,pl,rfl,s7,hf7,pp,sub,lpl,po⟩;have subm:∀p∈pl,p.g∈gs:=fun p hp=>Ii (sub.subset (HM hp));have O:qE w h ((List.range 6).map (g9 z)) rs pl:=⟨fun p hp=>⟨(po p hp).1,(b1 _ (subm p hp)).1,(b1 _ (subm p hp)).2,(po p hp).2.1,(po p hp).2.2.1⟩,by lia,List.Pairwise.sublist (sub.trans (List.take_sublist _ _)) b2,fun p hp=>b3 _ (subm p hp),br,lr⟩;have sH:=s4.trans (s5.trans s7);refine⟨fun σ' H'=>∃(vs:List V)(pl:List Plt),σ'=[some (.ref a),some (.int w),some (.int h),some (.int z),some (.int (G:Nat)),some (.ref l3),some (.int (ns.getD 2 0)),some (.ref A),some (.ref lf),o9,o10]/\ao H H'/\H' lf=some (.lst vs)/\Paired (PlE K H') vs pl/\qE w h ((List.range 6).map (g9 z)) rs pl/\∀p∈pl,PlG rs p,?_,?_⟩
  ·refine eI ?_;intro kD3;refine⟨_,rfl,_,89,2,rfl,by decide,by decide,fun j hj=>⟨rfl,_,rfl,?_⟩⟩;refine bf (fun h1=>?_) (fun h1=>⟨vs,pl,rfl,sH,hf7,pp,O,fun p hp=>(po p hp).2.2.2⟩);refine⟨_,rfl,.inl ⟨rfl,_,SqL.of hf7⟩,lf,_,rfl,rfl,hf7,?_⟩;have tk:=TK.lst (o:=.lst vs.reverse) hf7;refine⟨vs.reverse,pl.reverse,rfl,ao.set fr sH,af,?_,O.rev,fun p hp=>(po p (List.mem_reverse.mp hp)).2.2.2⟩;exact Paired.rev (Paired.imp (fun _ _ y=>y.tk tk) pp)
  ·rintro σ' H8 ⟨vs,pl,rfl,s8,hf8,pp,O,OG⟩;exact⟨_,rfl,q lf vs pl rs _ s8 fr hf8 pp O OG pos0⟩
def lZ(K:Frag):Sp:=fun vs H Q _=>∃(l:Addr)(xs:List V)(L:cw)(g:Nat->Option Col)(C:List Col),vs=[.ref l]/\SqL K H l xs/\Paired (cE K H) xs L/\xW g L/\L.length<=300/\C.length<60/\(∀p∈L,p.2∈C)/\∀a R H',ao H H'->StrT K H' a R->bq g R->Q (.ref a) H'
variable(dU:Df P w K mg base 5 "strips_of" ["pairs"] (lZ K))
theorem iO:aA ["pairs","grounds","pair"] ["pairs"] (ak (top 9)):=by trivial
include B hW in
theorem tJ(T:Tx K mg "strips_of" (top 9) ["pairs"]):Df P w K mg base 5 "strips_of" ["pairs"] (lZ K):=by
 refine T.df iO (by rintro _ _ _ _ ⟨l,xs,L,g,C,rfl,hl,pr,hg,hz,hC,hLC,q⟩;rfl) ?_;rintro f _ A _ s H _ Q E hr ⟨l,xs,L,g,C,rfl,hl,pr,hg,hz,hC,hLC,q⟩;have hu:=hr.units;refine aO ?_;intro kX;refine ah 2 (aj (aC (bO bW (by rfl) B.tuple boot_tuple (aa (BL hW hr (by rfl) B.sorted (aa (bR ["column"] [("grounds",1)] (fC _ ["grounds"]) rfl (by rfl) rfl (by trivial) (by trivial) (aU (by rfl)) (cC (by rfl)) (mC ⟨rfl,rfl⟩ mN) (mC rfl mN) (bE (by decide)) (Dz (pv 1)) (fun _ _ _ _=>aM (i:=0) (show(["column","grounds"]:List Str).Nodup by trivial) rfl (Or.inl rfl) (Or.inr rfl)) (fun _ _ _ _=>bQ) (fun _ _ _ _=>(aX (aa (zR (P:=P) (w:=w) (K:=K) rfl rfl rfl hu (pv 1) (pv 0) (fun _ _=>rfl)) (aa (pv 0) ag))))) ag)) ag)))) ?_;intro kR2 pR2;refine ah 1 (ai (cq GW rfl (dJ (pv 0)) (aM (i:=2) iO.nd rfl (by trivial)) (aj (aT (aD fW (aH aL (pv 2) ae (fun _ _=>rfl)) ae (aE _)) (aj (xb hu (pv 1) (aH aL (pv 2) ae (fun _ _=>rfl)) (aq xn (zS hu (pv 1) (aH aL (pv 2) ae (fun _ _=>rfl)) ae ⟨rfl,rfl,rfl,rfl⟩) (aH aL (pv 2) ae (fun _ _=>rfl))) rfl)) aG))) pR2) ?_;intro kR1 pR1;refine⟨_,(ai (aw (i:=1) iO.nd rfl (by trivial) uL) pR1),?_⟩;have lx:xs.length=L.length:=Gw pr;intro d hd hsys;have sd:=ao.upd (o:=gh d gb) hd;have hc0:m9 P w K (upd H d (gh d gb)) d gb []:=⟨af,qA P w,hsys,fun t ht=>nomatch ht⟩;generalize (upd H d (gh d gb))=H1 at sd hc0 ⊢;have subC:∀i,((grp (L.take i)).map (·.1)).length<=C.length:=fun i=>by have ok:=wB (L:=L) (fun p hp=>hg.lt p hp) i;refine HI ok.nd fun c hc=>?_;obtain⟨p,hp,e⟩:=Gm.mp (ok.sub c hc);rw[<-e];exact hLC p (Ii hp)
 refine⟨_,rfl,l,rfl,⟨_,sd.seq hl⟩,eJ (K:=K) (a:=l) (xs:=xs) (fun i σ H2=>∃(o1:Option V)(ob:Obj)(T:CT),σ=[some (.ref l),some (.ref d),o1]/\ao H H2/\m9 P w K H2 d ob T/\TGr T (grp (L.take i))) ⟨none,gb,[],rfl,sd,hc0,.nil⟩ (fun i σ H2 _ hPz=>hPz.elim fun _ hPz=>hPz.elim fun _ hPz=>hPz.elim fun _ hPz=>(fun e=>e.seq hl) (hPz.2.1)) ?_ ?_⟩
 ·rintro i y σ H2 hi ⟨o1,ob,T,rfl,s2,hcol,tg⟩;refine dw ?_;intro kD1;obtain⟨p,hp,r1,b,rfl,hr0,hb0⟩:=aQ pr hi;have hr1:=s2.tup hr0;have hb:=hb0.tk s2.tk;have snoc:=vf hp;refine⟨_,rfl,r1,_,_,_,rfl,rfl,hr1,(au (j:=0) rfl),rfl,_,rfl,?_⟩;refine bf (fun h1=>?_) (fun h1=>?_)
  ·have h0:p.1≠0:=fun z=>by
    rw[z]at h1
    revert h1
    decide
   have lT:T.length<=60:=by
    have l1:T.length=(grp (L.take i)).length:=Gw tg;have l2:=subC i;rw[Gh]at l2
    lia
   refine⟨_,rfl,d,ob,T,rfl,hcol,_,rfl,r1,_,_,_,rfl,rfl,hr1,(au (j:=1) rfl),ob,T,b,p.2,hcol,rfl,hb,?_⟩;rw[zp tg];refine⟨_,rfl,r1,_,_,_,rfl,rfl,hr1,(au (j:=0) rfl),_,_,rfl,rfl,?_⟩;have eor:V.int (Builtin.bitOr ((gAt (grp (L.take i)) p.2:Nat):Int) ((p.1:Nat):Int))=V.int ((gAt (grp (L.take i)) p.2|||p.1:Nat):Int):=congrArg V.int (nU _ _);refine⟨_,rfl,_,rfl,r1,_,_,_,rfl,rfl,hr1,(au (j:=1) rfl),d,ob,T,b,p.2,rfl,hcol,rfl,hb,by lia,fun o' ho0=>?_⟩;have ho':ux P w o' (kR T p.2 b (.int ((gAt (grp (L.take i)) p.2|||p.1:Nat):Int))):=(by rw[<-eor];exact ho0);obtain⟨c1,c2,c3,c4⟩:=hcol;have tk:=TK.obj (o:=gh d o') c1;refine⟨_,o',_,rfl,?_,⟨af,ho',hsys,?_⟩,?_⟩
   ·intro c o e;rw[av (fun z=>by rw[z,hd]at e;cases e)];exact s2 _ _ e
   ·exact yi (P:=fun t=>bX K _ t.2.1 t.1) (fun t ht=>(c4 t ht).tk tk) (hb.tk tk) (fun t ht _=>ht)
   ·rw[snoc,Gu h0];exact Bl tg
  ·have h0:p.1=0:=G8 fun z=>h1 (by rw[GZ (fun w=>z (by have:=V.int.inj w;lia))];rfl);refine⟨_,ob,T,rfl,s2,hcol,?_⟩;rw[snoc,Gz h0];exact tg
 ·rintro σ H2 ⟨o1,ob,T,rfl,s2,hcol,tg⟩;rw[lx,GL]at tg;have ok:=wB (L:=L) (fun p hp=>hg.lt p hp) L.length;have sC:=subC L.length;rw[GL]at ok sC;rw[Gh]at sC;generalize grp L=D at tg ok sC;have lT:T.length=D.length:=Gw tg;obtain⟨c1,c2,c3,c4⟩:=id hcol;refine⟨_,rfl,d,ob,T,rfl,c1,c2,c3,fun A1 hA1=>?_⟩;refine Fs (d:=d) (o:=ob) (T:=T) (fun i acc H3=>ao H2 H3/\H3 A1=some (.lst acc)/\Paired (cE K H3) acc ((D.take i).map fun t=>(t.2,t.1))) ⟨ao.upd hA1,af,.nil⟩ (fun i acc H3 _ ⟨e,_⟩=>e _ _ c1) ?_ ?_
  ·rintro i t acc H3 hi ⟨s3,h3,pr3⟩;refine dM ?_;intro kq2 kr2;obtain⟨dd,hdd,e1,e2⟩:=zo tg ok.nd hi;have hb3:=(c4 t (Gp hi)).tk s3.tk;have hcol3:m9 P w K H3 d ob T:=⟨s3 _ _ c1,c2,c3,fun u hu=>(c4 u hu).tk s3.tk⟩;refine⟨_,rfl,_,rfl,d,ob,T,t.2.1,t.1,_,rfl,hcol3,rfl,hb3,e2,_,rfl,aK rfl,fun r4 hr4=>?_⟩;have s4:=ao.upd (o:=.tup [.int (dd.2:Nat),.ref t.2.1]) hr4;have lacc:acc.length<sizeLine:=by
    rw[Gw pr3,Gh,GR];exact aF (by lia)
   refine⟨s4 _ _ h3,lacc,?_,af,?_⟩
   ·intro b5 o5 e5;rw[av (fun z=>by rw[z,hA1]at e5;cases e5)];exact s4 _ _ (s3 _ _ e5)
   ·rw[GF,hdd,G3,GK];have tk2:=TK.lst (o:=.lst (acc++[.ref r4])) (s4 _ _ h3);refine Paired.app (Paired.imp (fun _ _ z=>(z.tk s4.tk).tk tk2) pr3) (.cons (cE.tk tk2 ⟨r4,t.2.1,rfl,SqT.of af,?_⟩) .nil);have:=hb3.tk s4.tk;rw[e1]at this;exact this
  ·rintro acc H3 ⟨s3,h3,pr3⟩;rw[lT,GL]at pr3;have la:acc.length=D.length:=(by rw[Gw pr3,Gh]);refine⟨A1,acc,(D.map fun t=>(t.2,t.1)).map fun p=>((LM.cb p.1:Nat):Int),rfl,SqL.of h3,by lia,by rw[Gh,Gh,la],?_,fun l4 ys H4 hl4 s4 h4 sk=>?_⟩
   ·intro i v z hv hz H4 s4;obtain⟨p,hp,r5,b5,rfl,h5,_⟩:=aQ pr3 hv;rw[GX,hp]at hz;cases hz;obtain⟨t,ht,rfl⟩:=Gm.mp (Gp hp);obtain⟨k1,k2,_⟩:=ok.ok t ht;exact⟨r5,t.2,_,rfl,s4.tup h5,k1,k2,rfl,rfl⟩
   ·obtain⟨R,pr5,pm,so⟩:=vJ pr3 sk;refine⟨l4,_,rfl,.inl ⟨SqL.of h4,fun l6 hl6=>?_⟩⟩;have s6:=ao.upd (o:=.tup ys) hl6;exact q l6 R _ (s2.trans (s3.trans (s4.trans s6))) ⟨ys,SqT.of af,Paired.imp (fun _ _ z=>z.tk (s4.trans s6).tk) pr5⟩ (wA hg ok pm so)
def w6(K:Frag):Sp:=fun vs H Q _=>∃(a:Addr)(m:Nat)(tv:V)(tl:Option (List Int))(rb:V)(bb:List Key)(R:cw)(g:Nat->Option Col),vs=[.ref a,.int (m:Nat),rb,tv]/\bM K H rb bb/\yV K H tv tl/\StrT K H a R/\bq g R/\R.length<29/\(∀p∈R,GoodC p.2)/\∀b R' H',ao H H'->StrT K H' b R'->bq (fun i=>if m.testBit i=true then(g i).map (qm tl bb)else(g i).map id) R'->Q (.ref b) H'
variable(qI:DfD P w K mg base 6 "laid" ["strips","ground","burden","told"] (w6 K) [.none])
theorem sR:aA ["strips","ground","burden","told","pairs","strip"] ["strips","ground","burden","told"] (ak (top 24)):=by trivial
include B dU j9 in
theorem BS(T:TxD K mg "laid" (top 24) ["strips","ground","burden","told"] [.none]):DfD P w K mg base 6 "laid" ["strips","ground","burden","told"] (w6 K) [.none]:=by
 refine T.dfD sR (by rintro _ _ _ _ ⟨a,m,tv,tl,rb,bb,R,g,rfl,hbb,hTl,hT,hG,hz,hgood,q⟩;rfl) ?_;rintro f _ A _ s H _ Q E hr ⟨a,m,tv,tl,rb,bb,R,g,rfl,hbb,hTl,hT,hG,hz,hgood,q⟩;refine aO ?_;intro kX;refine ah 2 (aj (aC (aB dU hr (aa (pv 4) ag)))) ?_;intro kR2 pR2;refine bS 1 1 (aj (cO (jh G4 He Hd cH (pv 4) (aa (aX (aa (aq ij (aH aL (pv 5) ae (fun _ _=>rfl)) (xk vF (pv 1))) (aa (aH aL (pv 5) ae (fun _ _=>rfl)) ag))) ag)))) ?_;intro kS1x1 pS1x1;refine bS 1 0 (ai (cO (jh G4 He Hd cH (pv 4) (aa (aX (aa (aq ij (aH aL (pv 5) ae (fun _ _=>rfl)) (pv 1)) (aa (aB j9 hr (aa (aH aL (pv 5) ae (fun _ _=>rfl)) (aa (pv 2) (aa (pv 3) ag)))) ag))) ag))) pS1x1) ?_;intro kS1x0 pS1x0;refine ah 1 (ai (cq GW rfl (eF (pv 0)) (aM (i:=5) sR.nd rfl (by trivial)) pS1x0) pR2) ?_;intro kR1 pR1;refine⟨_,(ai (aw (i:=4) sR.nd rfl (by trivial) (cA ag)) pR1),?_⟩;obtain⟨vs,ha,pr⟩:=hT;have lv:vs.length=R.length:=Gw pr;refine⟨aK rfl,fun l hl=>?_⟩;have s0:=ao.upd (o:=.lst []) hl;refine⟨_,rfl,a,rfl,⟨_,s0.tup ha⟩,gv (K:=K) (a:=a) (xs:=vs) (fun i σ H2=>∃(o5:Option V)(ys:List V),σ=[some (.ref a),some (.int (m:Nat)),some rb,some tv,some (.ref l),o5]/\ao H H2/\H2 l=some (.lst ys)/\Paired (cE K H2) ys ((R.take i).flatMap fun p=>[(p.1&&& m,qm tl bb p.2),(dif p.1 m,id p.2)])) ⟨none,[],rfl,s0,af,.nil⟩ (fun i σ H2 _ hPz=>hPz.elim fun _ hPz=>hPz.elim fun _ hPz=>(fun e=>e.tup ha) (hPz.2.1)) ?_ ?_⟩
 ·rintro i y σ H2 hi ⟨o5,ys,rfl,s2,h2,py⟩;refine dw ?_;intro kD1;obtain⟨p,hp,r1,b,rfl,hr1,hb1⟩:=aQ pr hi;have gc:=hgood p (Gp hp);have lys:ys.length<=58:=by
   rw[Gw py,mK,GR]
   lia
  have eand:V.int (Builtin.bitAnd ((p.1:Nat):Int) ((m:Nat):Int))=V.int ((p.1&&& m:Nat):Int):=congrArg V.int (fb _ _);have edif:V.int (Builtin.bitAnd ((p.1:Nat):Int) (Builtin.bitNot ((m:Nat):Int)))=V.int ((dif p.1 m:Nat):Int):=congrArg V.int (jb _ _);refine⟨_,rfl,.inl ⟨rfl,_,SqL.of h2⟩,_,rfl,r1,_,_,_,rfl,rfl,s2.tup hr1,(au (j:=0) rfl),_,rfl,_,_,rfl,rfl,?_⟩;refine⟨_,rfl,r1,_,_,_,rfl,rfl,s2.tup hr1,(au (j:=1) rfl),_,rfl,_,rfl,b,tv,tl,rb,bb,p.2,rfl,hbb.tk s2.tk,hb1.tk s2.tk,gc,hTl.same s2,fun b3 H3 s3 hc3=>?_⟩;refine⟨aK rfl,fun r4 hr4=>?_⟩;have s4:=ao.upd (o:=.tup [V.int (Builtin.bitAnd ((p.1:Nat):Int) ((m:Nat):Int)),.ref b3]) hr4;have s34:=s3.trans s4;have h4:=s34 _ _ h2;have tk4:=TK.lst (o:=.lst (ys++[.ref r4])) h4;refine⟨l,_,_,rfl,rfl,h4,aF (by lia),?_⟩;have e4:cE K (upd (upd H3 r4 (.tup [V.int (Builtin.bitAnd ((p.1:Nat):Int) ((m:Nat):Int)),.ref b3])) l (.lst (ys++[.ref r4]))) (.ref r4) (p.1&&& m,qm tl bb p.2):=by refine cE.tk tk4 ⟨r4,b3,rfl,?_,hc3.tk s4.tk⟩;show SqT K _ r4 [V.int ((p.1&&& m:Nat):Int),.ref b3];rw[<-eand];exact SqT.of af
  have py4:=Paired.imp (fun _ _ z=>cE.tk tk4 (cE.tk s34.tk z)) py;have s5:ao H (upd (upd H3 r4 (.tup [V.int (Builtin.bitAnd ((p.1:Nat):Int) ((m:Nat):Int)),.ref b3])) l (.lst (ys++[.ref r4]))):=fun b5 o5 e5=>by rw[av (fun z=>by rw[z,hl]at e5;cases e5)];exact s34 _ _ (s2 _ _ e5)
  have h5:(upd (upd H3 r4 (.tup [V.int (Builtin.bitAnd ((p.1:Nat):Int) ((m:Nat):Int)),.ref b3])) l (.lst (ys++[.ref r4]))) l=some (.lst (ys++[.ref r4])):=af;have q5:=Paired.app py4 (.cons e4 .nil);generalize (upd (upd H3 r4 (.tup [V.int (Builtin.bitAnd ((p.1:Nat):Int) ((m:Nat):Int)),.ref b3])) l (.lst (ys++[.ref r4])))=H5 at s5 h5 q5 ⊢;refine⟨_,rfl,.inl ⟨rfl,_,SqL.of h5⟩,_,rfl,r1,_,_,_,rfl,rfl,s5.tup hr1,(au (j:=0) rfl),_,rfl,_,rfl,_,_,rfl,rfl,?_⟩;refine⟨_,rfl,r1,_,_,_,rfl,rfl,s5.tup hr1,(au (j:=1) rfl),aK rfl,fun r7 hr7=>?_⟩;have s7:=ao.upd (o:=.tup [V.int (Builtin.bitAnd ((p.1:Nat):Int) (Builtin.bitNot ((m:Nat):Int))),.ref b]) hr7;have h7:=s7 _ _ h5;have tk7:=TK.lst (o:=.lst (ys++[.ref r4]++[.ref r7])) h7;refine⟨l,_,_,rfl,rfl,h7,aF (by rw[Gn];show _+1<=1000;lia),_,ys++[.ref r4]++[.ref r7],rfl,fun b8 o8 e8=>?_,af,?_⟩
  ·rw[av (fun z=>by rw[z,hl]at e8;cases e8)];exact s7 _ _ (s5 _ _ e8)
  ·rw[GF,hp,G3,List.flatMap_append];have e7:cE K (upd (upd H5 r7 (.tup [V.int (Builtin.bitAnd ((p.1:Nat):Int) (Builtin.bitNot ((m:Nat):Int))),.ref b])) l (.lst (ys++[.ref r4]++[.ref r7]))) (.ref r7) (dif p.1 m,id p.2):=by
    refine cE.tk tk7 ⟨r7,b,rfl,?_,(hb1.tk s5.tk).tk s7.tk⟩;show SqT K _ r7 [V.int ((dif p.1 m:Nat):Int),.ref b];rw[<-edif];exact SqT.of af
   have:=Paired.app (Paired.imp (fun _ _ z=>cE.tk tk7 (cE.tk s7.tk z)) q5) (.cons e7 .nil);rw[HG]at this;rw[HG];simpa using this
 ·rintro σ H2 ⟨o5,ys,rfl,s2,h2,py⟩;rw[lv,GL]at py;refine⟨_,rfl,l,ys,_,_,(R.map fun p=>qm tl bb p.2)++R.map fun p=>id p.2,rfl,SqL.of h2,py,vg hG m (qm tl bb) id,by rw[mK];lia,by rw[Gn,Gh,Gh];lia,fun p hp=>?_,fun b R' H' s' hT' hG'=>q b R' H' (s2.trans s') hT' hG'⟩;obtain⟨p',hp',z⟩:=List.mem_flatMap.mp hp;simp only[GH,List.not_mem_nil,or_false]at z;rcases z with rfl|rfl
  ·exact GI _ (Gm.mpr ⟨p',hp',rfl⟩)
  ·exact GQ _ (Gm.mpr ⟨p',hp',rfl⟩)
def rJ(K:Frag):Sp:=fun vs H Q _=>∃(a:Addr)(m:Nat)(n:Int)(rb:V)(bb:List Key)(R:cw)(g:Nat->Option Col),vs=[.ref a,.int (m:Nat),.int n,rb]/\bM K H rb bb/\StrT K H a R/\bq g R/\R.length<29/\(∀p∈R,GoodC p.2)/\∀b R' H',ao H H'->StrT K H' b R'->bq (fun i=>if m.testBit i=true then(g i).map (iJ n bb)else(g i).map (wo n)) R'->Q (.ref b) H'
variable(m7:Df P w K mg base 6 "filled" ["strips","ground","note","burden"] (rJ K))
theorem ni:aA ["strips","ground","note","burden","pairs","strip"] ["strips","ground","note","burden"] (ak (top 28)):=by trivial
include B dU hZ fO in
theorem yq(T:Tx K mg "filled" (top 28) ["strips","ground","note","burden"]):Df P w K mg base 6 "filled" ["strips","ground","note","burden"] (rJ K):=by
 refine T.df ni (by rintro _ _ _ _ ⟨a,m,n,rb,bb,R,g,rfl,hbb,hT,hG,hz,hgood,q⟩;rfl) ?_;rintro f _ A _ s H _ Q E hr ⟨a,m,n,rb,bb,R,g,rfl,hbb,hT,hG,hz,hgood,q⟩;refine aO ?_;intro kX;refine ah 2 (aj (aC (aB dU hr (aa (pv 4) ag)))) ?_;intro kR2 pR2;refine bS 1 1 (aj (cO (jh G4 He Hd cH (pv 4) (aa (aX (aa (aq ij (aH aL (pv 5) ae (fun _ _=>rfl)) (xk vF (pv 1))) (aa (aB fO hr (aa (aH aL (pv 5) ae (fun _ _=>rfl)) (aa (pv 2) ag))) ag))) ag)))) ?_;intro kS1x1 pS1x1;refine bS 1 0 (ai (cO (jh G4 He Hd cH (pv 4) (aa (aX (aa (aq ij (aH aL (pv 5) ae (fun _ _=>rfl)) (pv 1)) (aa (aB hZ hr (aa (aH aL (pv 5) ae (fun _ _=>rfl)) (aa (pv 2) (aa (pv 3) ag)))) ag))) ag))) pS1x1) ?_;intro kS1x0 pS1x0;refine ah 1 (ai (cq GW rfl (eF (pv 0)) (aM (i:=5) ni.nd rfl (by trivial)) pS1x0) pR2) ?_;intro kR1 pR1;refine⟨_,(ai (aw (i:=4) ni.nd rfl (by trivial) (cA ag)) pR1),?_⟩;obtain⟨vs,ha,pr⟩:=hT;have lv:vs.length=R.length:=Gw pr;refine⟨aK rfl,fun l hl=>?_⟩;have s0:=ao.upd (o:=.lst []) hl;refine⟨_,rfl,a,rfl,⟨_,s0.tup ha⟩,gv (K:=K) (a:=a) (xs:=vs) (fun i σ H2=>∃(o5:Option V)(ys:List V),σ=[some (.ref a),some (.int (m:Nat)),some (.int n),some rb,some (.ref l),o5]/\ao H H2/\H2 l=some (.lst ys)/\Paired (cE K H2) ys ((R.take i).flatMap fun p=>[(p.1&&& m,iJ n bb p.2),(dif p.1 m,wo n p.2)])) ⟨none,[],rfl,s0,af,.nil⟩ (fun i σ H2 _ hPz=>hPz.elim fun _ hPz=>hPz.elim fun _ hPz=>(fun e=>e.tup ha) (hPz.2.1)) ?_ ?_⟩
 ·rintro i y σ H2 hi ⟨o5,ys,rfl,s2,h2,py⟩;refine dw ?_;intro kD1;obtain⟨p,hp,r1,b,rfl,hr1,hb1⟩:=aQ pr hi;have gc:=hgood p (Gp hp);have lys:ys.length<=58:=by
   rw[Gw py,mK,GR];omega
  have eand:V.int (Builtin.bitAnd ((p.1:Nat):Int) ((m:Nat):Int))=V.int ((p.1&&& m:Nat):Int):=congrArg V.int (fb _ _);have edif:V.int (Builtin.bitAnd ((p.1:Nat):Int) (Builtin.bitNot ((m:Nat):Int)))=V.int ((dif p.1 m:Nat):Int):=congrArg V.int (jb _ _);refine⟨_,rfl,.inl ⟨rfl,_,SqL.of h2⟩,_,rfl,r1,_,_,_,rfl,rfl,s2.tup hr1,(au (j:=0) rfl),_,rfl,_,_,rfl,rfl,?_⟩;refine⟨_,rfl,r1,_,_,_,rfl,rfl,s2.tup hr1,(au (j:=1) rfl),_,rfl,_,rfl,b,n,rb,bb,p.2,rfl,hbb.tk s2.tk,hb1.tk s2.tk,gc,fun b3 H3 s3 hc3=>?_⟩;refine⟨aK rfl,fun r4 hr4=>?_⟩;have s4:=ao.upd (o:=.tup [V.int (Builtin.bitAnd ((p.1:Nat):Int) ((m:Nat):Int)),.ref b3]) hr4;have s34:=s3.trans s4;have h4:=s34 _ _ h2;have tk4:=TK.lst (o:=.lst (ys++[.ref r4])) h4;refine⟨l,_,_,rfl,rfl,h4,aF (by omega),?_⟩;have e4:cE K (upd (upd H3 r4 (.tup [V.int (Builtin.bitAnd ((p.1:Nat):Int) ((m:Nat):Int)),.ref b3])) l (.lst (ys++[.ref r4]))) (.ref r4) (p.1&&& m,iJ n bb p.2):=by refine cE.tk tk4 ⟨r4,b3,rfl,?_,hc3.tk s4.tk⟩;show SqT K _ r4 [V.int ((p.1&&& m:Nat):Int),.ref b3];rw[<-eand];exact SqT.of af
  have py4:=Paired.imp (fun _ _ z=>cE.tk tk4 (cE.tk s34.tk z)) py;have s5:ao H (upd (upd H3 r4 (.tup [V.int (Builtin.bitAnd ((p.1:Nat):Int) ((m:Nat):Int)),.ref b3])) l (.lst (ys++[.ref r4]))):=fun b5 o5 e5=>by rw[av (fun z=>by rw[z,hl]at e5;cases e5)];exact s34 _ _ (s2 _ _ e5)
  have h5:(upd (upd H3 r4 (.tup [V.int (Builtin.bitAnd ((p.1:Nat):Int) ((m:Nat):Int)),.ref b3])) l (.lst (ys++[.ref r4]))) l=some (.lst (ys++[.ref r4])):=af;have q5:=Paired.app py4 (.cons e4 .nil);generalize (upd (upd H3 r4 (.tup [V.int (Builtin.bitAnd ((p.1:Nat):Int) ((m:Nat):Int)),.ref b3])) l (.lst (ys++[.ref r4])))=H5 at s5 h5 q5 ⊢;refine⟨_,rfl,.inl ⟨rfl,_,SqL.of h5⟩,_,rfl,r1,_,_,_,rfl,rfl,s5.tup hr1,(au (j:=0) rfl),_,rfl,_,rfl,_,_,rfl,rfl,?_⟩;refine⟨_,rfl,r1,_,_,_,rfl,rfl,s5.tup hr1,(au (j:=1) rfl),_,rfl,b,n,p.2,rfl,hb1.tk s5.tk,gc.1,by have:=gc.2.2;lia,fun b6 H6 s6 hc6=>?_⟩;refine⟨aK rfl,fun r7 hr7=>?_⟩;have s7:=ao.upd (o:=.tup [V.int (Builtin.bitAnd ((p.1:Nat):Int) (Builtin.bitNot ((m:Nat):Int))),.ref b6]) hr7;have s67:=s6.trans s7;have h7:=s67 _ _ h5;have tk7:=TK.lst (o:=.lst (ys++[.ref r4]++[.ref r7])) h7;refine⟨l,_,_,rfl,rfl,h7,aF (by rw[Gn];show _+1<=1000;omega),_,ys++[.ref r4]++[.ref r7],rfl,fun b8 o8 e8=>?_,af,?_⟩
  ·rw[av (fun z=>by rw[z,hl]at e8;cases e8)];exact s67 _ _ (s5 _ _ e8)
  ·rw[GF,hp,G3,List.flatMap_append];have e7:cE K (upd (upd H6 r7 (.tup [V.int (Builtin.bitAnd ((p.1:Nat):Int) (Builtin.bitNot ((m:Nat):Int))),.ref b6])) l (.lst (ys++[.ref r4]++[.ref r7]))) (.ref r7) (dif p.1 m,wo n p.2):=by
    refine cE.tk tk7 ⟨r7,b6,rfl,?_,hc6.tk s7.tk⟩;show SqT K _ r7 [V.int ((dif p.1 m:Nat):Int),.ref b6];rw[<-edif];exact SqT.of af
   have:=Paired.app (Paired.imp (fun _ _ z=>cE.tk tk7 (cE.tk s67.tk z)) q5) (.cons e7 .nil);rw[HG]at this;rw[HG];simpa using this
 ·rintro σ H2 ⟨o5,ys,rfl,s2,h2,py⟩;rw[lv,GL]at py;refine⟨_,rfl,l,ys,_,_,(R.map fun p=>iJ n bb p.2)++R.map fun p=>wo n p.2,rfl,SqL.of h2,py,vg hG m (iJ n bb) (wo n),by rw[mK];omega,by rw[Gn,Gh,Gh];omega,fun p hp=>?_,fun b R' H' s' hT' hG'=>q b R' H' (s2.trans s') hT' hG'⟩;obtain⟨p',hp',z⟩:=List.mem_flatMap.mp hp;simp only[GH,List.not_mem_nil,or_false]at z;rcases z with rfl|rfl
  ·exact GI _ (Gm.mpr ⟨p',hp',rfl⟩)
  ·exact GQ _ (Gm.mpr ⟨p',hp',rfl⟩)
def fT(K:Frag)(mg:Str->Option Value):Sp:=fun vs H Q _=>∃(a C dx sg:Addr)(num since:Int)(L:dY)(tr:V)(v:V)(p:Plt)(f:Nat->Option Col),vs=[.ref a,v]/\H a=some (.ins C dx (mL num since sg L tr))/\rn K mg C/\PlE K H v p/\bq f p.R/\p.R.length<29/\(∀q∈p.R,GoodC q.2)/\lR L/\∀b R' H',ao H H'->StrT K H' b R'->bq (lK num p L f) R'->Q (.ref b) H'
variable(cU:DfT P w K mg base CX0 7 aP "strips_untold" ["self","plot"] (fT K mg) [])
theorem jD:aA ["self","plot"] ["self","plot"] (ak cT):=by trivial
include B m7 qI cN cQ cf in
theorem jI(T:TxM K aP "strips_untold" "Lay.strips_untold" cT ["self","plot"] []):DfT P w K mg base CX0 7 aP "strips_untold" ["self","plot"] (fT K mg) []:=by
 have Ga:=qI.df;refine T.df jD (by rintro _ _ _ _ ⟨a,C,dx,sg,num,since,L,tr,v,p,f,rfl,ha,D,hp,hf,hz,hg,hs,q⟩;rfl) ?_;rintro f _ A _ s H _ Q E hr ⟨a,C,dx,sg,num,since,L,tr,v,p,f,rfl,ha,D,hp,hf,hz,hg,hs,q⟩;refine aO ?_;intro kX;refine ah 1 (aj (aC (aB m7 hr (aa (aH aL (pv 1) ae (fun _ _=>rfl)) (aa (fV (CX:=CX0) (E:=E0) (dvs:=[]) (ds:=[]) ["self","plot"] 1 (pv 0) (hr.mono (by decide)) .nil ji (aa (pv 1) ag)) (aa (c8 (pv 0) rfl) (aa (rN (CX:=CX0) (E:=E0) (dvs:=[]) (ds:=[]) ["self"] 1 (pv 0) (hr.mono (by decide)) .nil ji) ag))))))) ?_;intro kR1 pR1;refine⟨_,(ai (aT (aD cj (c8 (pv 0) rfl) ae (aE _)) (aj (aC (DC (dvs:=[V.non]) qI hr (.cons rfl .nil) (aa (aH aL (pv 1) ae (fun _ _=>rfl)) (aa (fV (CX:=CX0) (E:=E0) (dvs:=[]) (ds:=[]) ["self","plot"] 1 (pv 0) (hr.mono (by decide)) .nil ji (aa (pv 1) ag)) (aa (rN (CX:=CX0) (E:=E0) (dvs:=[]) (ds:=[]) ["self"] 1 (pv 0) (hr.mono (by decide)) .nil ji) ag)))))) aG) pR1),?_⟩;obtain rfl:C=aP:=dR.uniq ⟨D.mgL⟩ cf;obtain⟨l,l1',lr,rfl,p1,p2,p3⟩:=id hp;refine⟨_,rfl,a,C,dx,_,_,rfl,ha,D.pap.cls,D.nt,rfl,rfl,_,rfl,?_⟩;refine bf (fun z=>?_) (fun z=>?_)
 ·have z':L.nt=0:=veq.mp z;refine⟨_,rfl,l,_,_,_,rfl,rfl,p1,au (j:=2) rfl,_,rfl,a,C,dx,_,_,rfl,ha,D.pap.cls,cN,rfl,_,rfl,a,C,dx,sg,num,since,L,tr,_,p,rfl,ha,D,hp,_,rfl,a,C,dx,_,_,rfl,ha,D.pap.cls,cQ,rfl,a,C,dx,sg,num,since,L,tr,rfl,ha,D,fun t ht=>?_⟩;have s1:=ao.upd (o:=.tup ((layB num L).map kV)) ht;refine⟨lr,dG p L,.non,none,.ref t,layB num L,p.R,f,rfl,⟨qo hs,t,rfl,SqT.of af⟩,rfl,p3.tk s1.tk,hf,hz,hg,fun b R' H' s' hT hG=>q b R' H' (s1.trans s') hT ?_⟩;unfold lK;simp only[Gz z'];exact hG
 ·have z':¬L.nt=0:=fun y=>z (veq.mpr y);refine⟨_,rfl,l,_,_,_,rfl,rfl,p1,au (j:=2) rfl,_,rfl,a,C,dx,_,_,rfl,ha,D.pap.cls,cN,rfl,_,rfl,a,C,dx,sg,num,since,L,tr,_,p,rfl,ha,D,hp,_,rfl,a,C,dx,_,_,rfl,ha,D.pap.cls,D.nt,rfl,_,rfl,a,C,dx,_,_,rfl,ha,D.pap.cls,cQ,rfl,a,C,dx,sg,num,since,L,tr,rfl,ha,D,fun t ht=>?_⟩;have s1:=ao.upd (o:=.tup ((layB num L).map kV)) ht;refine⟨lr,dG p L,L.nt,.ref t,layB num L,p.R,f,rfl,⟨qo hs,t,rfl,SqT.of af⟩,p3.tk s1.tk,hf,hz,hg,fun b R' H' s' hT hG=>q b R' H' (s1.trans s') hT ?_⟩;unfold lK;simp only[Gu z'];exact hG
def gQ(K:Frag)(mg:Str->Option Value):Sp:=fun vs H Q E=>∃(a C dx sg:Addr)(num since:Int)(L:dY)(tr:V)(v:V)(p:Plt)(rs:List (List Key))(ss:List Str),vs=[.ref a,v]/\H a=some (.ins C dx (mL num since sg L tr))/\rn K mg C/\PlE K H v p/\PlG rs p/\A3 p.S/\SqT K H sg (SV ss)/\(∀x∈ss,PyData.canLay0 (.str x)=true)/\lR L/\AG K mg H Q E (iL p L num since ss)
variable(dQ:DfT P w K mg base (CXn P w) 8 aP "done_untold" ["self","plot"] (gQ K mg) [])
theorem gR:aA ["self","plot","made"] ["self","plot"] (ak dI):=by trivial
include B gq m3 fA eV cU cf in
theorem lF(T:TxM K aP "done_untold" "Lay.done_untold" dI ["self","plot"] []):DfT P w K mg base (CXn P w) 8 aP "done_untold" ["self","plot"] (gQ K mg) []:=by
 refine T.dfN gR (by rintro _ _ _ _ ⟨a,C,dx,sg,num,since,L,tr,v,p,rs,ss,rfl,ha,D,hp,G,hS,hs,ls,hL,q1,q2⟩;rfl) ?_;rintro f _ A _ s H _ Q E hr ⟨a,C,dx,sg,num,since,L,tr,v,p,rs,ss,rfl,ha,D,hp,G,hS,hs,ls,hL,q1,q2⟩;refine aO ?_;intro kX;refine ah 3 (aj (aC (aX (aa (aX (aa (pv 1) ag)) (aa (aX (aa (pv 2) ag)) (aa (aX ag) ag)))))) ?_;intro kR3 pR3;refine ah 2 (ai (aw (i:=2) gR.nd rfl (by trivial) (fV (CX:=CXn P w) (dvs:=[]) (ds:=[]) ["self","plot","strips"] 3 (pv 0) (hr.mono (by decide)) .nil (iI fun _ _ _ h=>h) (aa (pv 1) (aa (fV (CX:=CX0) (E:=E0) (dvs:=[]) (ds:=[]) ["self","plot"] 7 (pv 0) (hr.mono (by decide)) .nil ji (aa (pv 1) ag)) ag)))) pR3) ?_;intro kR2 pR2;refine ah 1 (ai (cO (vV gq hr (iI fun _ _ _ h=>h) (aa (pv 0) (aa (aB m3 hr (aa (aH aL (pv 1) ae (fun _ _=>rfl)) ag)) ag)))) pR2) ?_;intro kR1 pR1;refine⟨_,(aY (aT (aD fW (c8 (pv 0) rfl) ae (aE _)) (aj (cO (fV (CX:=CXn P w) (dvs:=[]) (ds:=[]) ["self","plot"] 4 (pv 0) (hr.mono (by decide)) .nil (iI fun _ _ _ h=>h) (aa (pv 1) ag)))) aG) pR1),?_⟩;obtain rfl:C=aP:=dR.uniq ⟨D.mgL⟩ cf;obtain⟨l,l1',lr,rfl,p1,p2,p3⟩:=id hp;obtain⟨f,hf,_⟩:=G.st;refine⟨fun σ' H'=>σ'=[some (.ref a),some (.ref l),none]/\ao H H'/\(L.nt=0\/ic p L since),?_,?_⟩
 ·refine eI ?_;intro kD1;refine⟨_,rfl,a,C,dx,_,_,rfl,ha,D.pap.cls,D.nt,rfl,rfl,_,rfl,?_⟩;refine bf (fun z=>?_) (fun z=>?_)
  ·exact⟨_,rfl,a,C,dx,_,_,rfl,ha,D.pap.cls,fA,rfl,_,rfl,a,C,dx,sg,num,since,L,tr,_,p,rs,rfl,ha,D,hp,G.nm,fun y H' s'=>⟨rfl,s',.inr y⟩,fun y dx' H' s' hd=>q2 _ _ dx' H' s' (.note (vne.mp z) y) hd⟩
  ·exact⟨rfl,ao.refl _,.inl (by have:=mt vne.mpr z;lia)⟩
 rintro σ' H1 ⟨rfl,s1,hfit⟩;refine⟨_,rfl,_,rfl,l,_,_,_,rfl,rfl,s1.tup p1,au (j:=1) rfl,l1',p.S,rfl,p2.tk s1.tk,hS.len,fun l0 hl0=>?_⟩;have s2:=s1.trans (ao.upd (o:=.lst ((p.S.map (·.1)).map V.str)) hl0);refine⟨a,C,dx,sg,l0,_,ss,p.S.map (·.1),rfl,s2 _ _ ha,D.pap,rfl,rfl,s2.tup hs,SqL.of af,ls,hS.lay,fun hw=>?_,fun x hx dx' H' s' hd=>q2 _ _ dx' H' (s2.trans s') (.sign hfit hx) hd⟩;generalize (upd H1 l0 (.lst ((p.S.map (·.1)).map V.str)))=H2 at s2 ⊢;replace ha:=s2 _ _ ha;replace hp:=hp.tk s2.tk;refine⟨_,rfl,a,C,dx,_,_,rfl,ha,D.pap.cls,eV,rfl,_,rfl,_,rfl,a,C,dx,_,_,rfl,ha,D.pap.cls,cU,rfl,_,rfl,a,C,dx,sg,num,since,L,tr,_,p,f,rfl,ha,D,hp,hf,Nat.lt_succ_of_le G.nm.len,G.nm.good,hL,fun b R' H3 s3 hT hG=>?_⟩;refine⟨a,C,dx,sg,num,since,L,tr,_,p,b,R',rfl,s3 _ _ ha,D,hp.tk s3.tk,hT,hG.len,fun hno w H4 s4 hw4=>?_,fun y dx' H' s' hd=>q2 _ _ dx' H' (s2.trans (s3.trans s')) (.many hfit hw hf hG y) hd⟩;have s24:=s2.trans (s3.trans s4);refine⟨_,rfl,aK rfl,fun t1 ht1=>?_⟩;have s5:=ao.upd (o:=.tup [.ref l]) ht1;refine⟨_,rfl,aK rfl,fun t2 ht2=>?_⟩;have s6:=ao.upd (o:=.tup [w]) ht2;refine⟨aK rfl,fun t3 ht3=>?_⟩;have s7:=ao.upd (o:=.tup []) ht3;refine⟨aK rfl,fun t4 ht4=>?_⟩;have s8:=ao.upd (o:=.tup [.ref t1,.ref t2,.ref t3]) ht4;have s58:=s5.trans (s6.trans (s7.trans s8));have e1:PlE K _ (.ref l) p:=PlE.tk (s3.trans (s4.trans s58)).tk hp;have e2:PlE K _ w ⟨p.g,p.S,R',num⟩:=PlE.tk s58.tk hw4;exact q1 p ⟨p.g,p.S,R',num⟩ _ _ (s24.trans s58) (.does hfit hw hf hG hno) (.tup (SqT.of af) (.cons (.tup ((s6.trans (s7.trans s8)).tup (SqT.of af)) (.cons e1.isD .nil)) (.cons (.tup ((s7.trans s8).tup (SqT.of af)) (.cons e2.isD .nil)) (.cons (.tup (s8.tup (SqT.of af)) .nil) .nil))))
def om(K:Frag)(mg:Str->Option Value):Sp:=fun vs H Q E=>∃(a C dx sg:Addr)(num since:Int)(L:dY)(tr:V)(lp:Addr)(fl:V)(ss:List Str)(xs:List V)(ps:List Plt)(rs:List (List Key)),vs=[.ref a,fl,.ref lp,.non]/\H a=some (.ins C dx (mL num since sg L tr))/\rn K mg C/\SqT K H sg (SV ss)/\(∀x∈ss,PyData.canLay0 (.str x)=true)/\SqL K H lp xs/\Paired (PlE K H) xs ps/\(∀p∈ps,PlG rs p/\A3 p.S)/\L.c<=64/\lR L/\AG K mg H Q E (fZ ps L num since ss)
variable(i9:DfT P w K mg base (CXn P w) 9 aP "done" ["self","floor","plots","told"] (om K mg) [.none])
theorem oA:aA ["self","floor","plots","told","plot"] ["self","floor","plots","told"] (ak iP):=by trivial
include B gu dQ cD cf bC bu in
theorem uW(T:TxM K aP "done" "Lay.done" iP ["self","floor","plots","told"] [.none]):DfT P w K mg base (CXn P w) 9 aP "done" ["self","floor","plots","told"] (om K mg) [.none]:=by
 refine T.dfN oA (by rintro _ _ _ _ ⟨a,C,dx,sg,num,since,L,tr,lp,fl,ss,xs,ps,rs,rfl,ha,D,hs,ls,hl,pp,hG,hc,hL,q1,q2⟩;rfl) ?_;rintro f _ A _ s H _ Q E hr ⟨a,C,dx,sg,num,since,L,tr,lp,fl,ss,xs,ps,rs,rfl,ha,D,hs,ls,hl,pp,hG,hc,hL,q1,q2⟩;refine aO ?_;intro kX;refine ah 3 (aj BF) ?_;intro kR3 pR3;refine ah 2 (ai (aT ((mB (aD ig (pv 3) cL (aE _)) (kP (aD fW (c8 (pv 0) rfl) ae (aE _)))).pt) (aj (aC (fV (CX:=CXn P w) (dvs:=[]) (ds:=[]) ["self","plot"] 8 (pv 0) (hr.mono (by decide)) .nil (iI fun _ _ _ h=>h) (aa (pv 4) ag)))) aG) pR3) ?_;intro kR2 pR2;refine ah 1 (ai (aT (aD fW (aq ij (c8 (pv 0) rfl) (xk vF (aH aL (pv 4) ae (fun _ _=>rfl)))) ae (aE _)) (aj (gB (W:=RzW H E) rfl (nu cD hr (aa aR (aa aR (aa aR ag)))) (fun _ _ _ _ _ _ _ I hx ee=>jP I hx ee.1 ee.2))) aG) pR2) ?_;intro kR1 pR1;refine⟨_,(ai (aw (i:=4) oA.nd rfl (by trivial) (vV gu hr (iI fun _ _ _ h=>h) (aa (pv 2) (aa (c8 (pv 0) rfl) (aa (c8 (pv 0) rfl) ag))))) pR1),?_⟩;obtain rfl:C=aP:=dR.uniq ⟨D.mgL⟩ cf;refine⟨_,rfl,_,rfl,a,C,dx,_,_,rfl,ha,D.pap.cls,D.at',rfl,_,rfl,a,C,dx,_,_,rfl,ha,D.pap.cls,D.gr,rfl,lp,xs,ps,L.c,L.gr,rfl,hl,pp,hc,fun hno dx' H' s' hd=>q2 _ _ dx' H' s' (.waste hno) hd,fun p v hfd mp hp=>⟨fun hg=>?_,fun h1 h2 dx' H' s' hd=>q2 _ _ dx' H' s' (.other hfd h1 h2) hd⟩⟩;obtain⟨G,hS⟩:=hG p mp;obtain⟨l,l1',lr,rfl,p1,p2,p3⟩:=id hp;have edif:(fun i j=>V.int (Builtin.bitAnd i j)) ((L.ov:Nat):Int) (Builtin.bitNot ((p.g:Nat):Int))=V.int ((dif L.ov p.g:Nat):Int):=congrArg V.int (jb _ _);refine⟨_,rfl,a,C,dx,_,_,rfl,ha,D.pap.cls,D.ov,rfl,_,rfl,l,_,_,_,rfl,rfl,p1,au (j:=0) rfl,_,rfl,_,_,rfl,rfl,rfl,_,rfl,?_⟩;refine bf (fun z=>?_) (fun z=>?_)<;>rw[edif]at z
 ·exact⟨aK rfl,gw bC bu (ao.refl _) fun dx' H' s' hd=>q2 _ _ dx' H' s' (.over hfd hg (fun y=>vne.mp z (by rw[vp.mpr y];rfl))) hd⟩
 have sub:L.ov&&& p.g=L.ov:=vp.mp (by have:=mt vne.mpr z;lia);refine⟨_,rfl,rfl,_,rfl,ip ?_⟩;exact⟨_,rfl,a,C,dx,_,_,rfl,ha,D.pap.cls,dQ,rfl,_,rfl,a,C,dx,sg,num,since,L,tr,_,p,rs,ss,rfl,ha,D,hp,G,hS,hs,ls,hL,fun p' q' v' H' s' r' hd=>q1 p' q' v' H' s' (.of hfd hg sub r') hd,fun w x dx' H' s' r' hd=>q2 w x dx' H' s' (.of hfd hg sub r') hd⟩
def oa(K:Frag)(mg:Str->Option Value):Sp:=fun vs H Q _=>∃(a C dx sg:Addr)(num since:Int)(L:dY)(tr:V)(lp:Addr)(fl:V)(ss:List Str)(xs:List V)(ps:List Plt)(rs:List (List Key)),vs=[.ref a,fl,.ref lp]/\H a=some (.ins C dx (mL num since sg L tr))/\rn K mg C/\SqT K H sg (SV ss)/\(∀x∈ss,PyData.canLay0 (.str x)=true)/\SqL K H lp xs/\Paired (PlE K H) xs ps/\(∀p∈ps,PlG rs p/\A3 p.S)/\L.c<=64/\lR L/\∀o v H',ao H H'->fZ ps L num since ss o->IsD K H' (outD o) v->Q v H'
variable(gY:Df P w K mg base 10 "_law_done" ["_law_paper","_law_floor","_law_plots"] (oa K mg))
theorem fU:aA ["_law_paper","_law_floor","_law_plots","_law_found","e"] ["_law_paper","_law_floor","_law_plots"] (ak (top 62)):=by trivial
include B i9 cf bC mU gp hV in
theorem uS(T:Tx K mg "_law_done" (top 62) ["_law_paper","_law_floor","_law_plots"]):Df P w K mg base 10 "_law_done" ["_law_paper","_law_floor","_law_plots"] (oa K mg):=by
 refine T.df fU (by rintro _ _ _ _ ⟨a,C,dx,sg,num,since,L,tr,lp,fl,ss,xs,ps,rs,rfl,ha,D,hs,ls,hl,pp,hG,hc,hL,q⟩;rfl) ?_;rintro f _ A _ s H _ Q E hr ⟨a,C,dx,sg,num,since,L,tr,lp,fl,ss,xs,ps,rs,rfl,ha,D,hs,ls,hl,pp,hG,hc,hL,q⟩;refine aO ?_;intro kX;refine ah 2 (aj (aC (pv 3))) ?_;intro kR2 pR2;refine ah 1 (ai (BE (m:=4) fU.nd rfl rfl (fun _ _=>(aj (aw (i:=3) fU.nd rfl (by trivial) (aX (aa aR (aa (zM (CX:=CXn P w) (dvs:=[V.non]) (ds:=[Value.none]) (P:=P) (w:=w) (K:=K) (mg:=mg) (base:=base) rfl rfl rfl rfl rfl ["self","floor","plots","told"] 9 (pv 0) (hr.mono (by decide)) (.cons rfl .nil) (ym fun _ _ _ h=>h) (aa (pv 1) (aa (pv 2) ag))) ag)))))) (fun _=>(aj (aw (i:=3) fU.nd rfl (by trivial) (aX (aa aR (aa (xm (K:=K) rfl (pv 4)) (aa (xm (K:=K) rfl (pv 4)) ag)))))))) pR2) ?_;intro kR1 pR1;refine⟨_,(ai (aw (i:=3) fU.nd rfl (by trivial) cL) pR1),?_⟩;obtain rfl:C=aP:=dR.uniq ⟨D.mgL⟩ cf;refine⟨_,rfl,a,C,dx,_,_,rfl,ha,D.pap.cls,i9,rfl,_,rfl,_,rfl,a,C,dx,sg,num,since,L,tr,lp,fl,ss,xs,ps,rs,rfl,ha,D,hs,ls,hl,pp,hG,hc,hL,fun p p' v H' s' hr' hd=>?_,fun w x dx' H' s' hr' hd=>?_⟩
 ·refine⟨aK rfl,fun t ht=>?_⟩;have s2:=ao.upd (o:=.tup [.str "does",v]) ht;exact⟨_,rfl,q (.does p p') _ _ (s'.trans s2) hr' (.tup (SqT.of af) (.cons (.str _) (.cons (IsD.same s2 hd) .nil)))⟩
 ·refine⟨bc,vx bC,mU,fun y σ' hσ hy=>?_⟩;obtain⟨o0,o1,o2,o3,o4,rfl⟩:=st5 hσ;have hd2:(upd H' y (XN y bc (some dx'))) dx'=some (XD dx' [("who",.str x),("word",.str w)]):=by
   rw[av (fun z=>by rw[z,hy]at hd;cases hd)];exact hd
  refine⟨_,rfl,y,bc,dx',_,_,rfl,af,hd2,gp,rfl,_,rfl,y,bc,dx',_,_,rfl,af,hd2,hV,rfl,aK rfl,fun t ht=>?_⟩;have s2:=(ao.upd (o:=XN y bc (some dx')) hy).trans (ao.upd (o:=.tup [.str "falls",.str w,.str x]) ht);exact⟨_,rfl,q (.falls w x) _ _ (s'.trans s2) hr' (.tup (SqT.of af) (.cons (.str _) (.cons (.str _) (.cons (.str _) .nil))))⟩
def mi(K:Frag):Sp:=spA K 11
variable(fY:Df P w K mg base 12 "_law_alike" ["_law_found","_law_due"] (mi K))
theorem mm:aA ["_law_found","_law_due","_law_k"] ["_law_found","_law_due"] (ak (top 59)):=by trivial
include B cY in
theorem sL(T:Tx K mg "_law_alike" (top 59) ["_law_found","_law_due"]){m k:Nat}(hk:1<=k)(Fq:Df P w K mg base k "_law_alike" ["_law_found","_law_due"] (spA K m)):Df P w K mg base (k+1) "_law_alike" ["_law_found","_law_due"] (spA K (m+1)):=by
 refine T.df mm (by rintro _ _ _ _ ⟨v,u,d,rfl,hv,hu',pl,dp,q⟩;rfl) ?_;rintro f _ A _ s H _ Q E hr ⟨v,u,d,rfl,hv,hu',pl,dp,q⟩;refine aO ?_;intro kX;refine ah 3 (aj (aC (nv (aB cY hr (aa (pv 0) ag) (hj:=by lia)) (kT (cB cj (pv 0) (pv 1) (aE _)))))) ?_;intro kR3 pR3;refine ah 2 (ai (aT (dE (aV kc (by rfl) B.isinstance boot_isinstance (aa (pv 1) (aa (jT (x:="str") (v:=.ty "str") (by rfl) B.str boot_str rfl) ag)))) (aj (aC (nv (aV kc (by rfl) B.isinstance boot_isinstance (aa (pv 0) (aa (jT (x:="str") (v:=.ty "str") (by rfl) B.str boot_str rfl) ag))) (kT (cB cj (pv 0) (pv 1) (aE _)))))) aG) pR3) ?_;intro kR2 pR2;refine ah 1 (ai (aT (aD ig (pv 1) cL (aE _)) (aj (aC (cB ig (pv 0) cL (aE _)))) aG) pR2) ?_;intro kR1 pR1;refine⟨_,(ai (aT (dE (aV kc (by rfl) B.isinstance boot_isinstance (aa (pv 1) (aa (jT (x:="tuple") (v:=.ty "tuple") (by rfl) B.tuple boot_tuple rfl) ag)))) (ai (aT ((mB (pY (dE (aV kc (by rfl) B.isinstance boot_isinstance (aa (pv 0) (aa (jT (x:="tuple") (v:=.ty "tuple") (by rfl) B.tuple boot_tuple rfl) ag))))) (kP (aD fW (aV bo (by rfl) B.len Hw (aa (pv 0) ag)) (aV bo (by rfl) B.len Hw (aa (pv 1) ag)) (aE _)))).pt) (aj (aC rO)) aG) (ai (cq GW rfl (bN (by rfl) B.range (aa (aV bo (by rfl) B.len Hw (aa (pv 1) ag)) ag)) (aM (i:=2) mm.nd rfl (by trivial)) (aj (aT (pY (dE (aB Fq hr (aa (aH aL (pv 0) (pv 2) (fun _ _=>rfl)) (aa (aH aL (pv 1) (pv 2) (fun _ _=>rfl)) ag)) (hj:=by omega)))) (aj (aC rO)) aG))) (aj (aC rO)))) aG) pR1),?_⟩;have kt:kitOne K (.type "tuple") (.type "tuple")=some true:=by kernel_rfl
 cases pl with
 |tup ln pls=>
  obtain⟨a,vs,rfl,ha,hvs⟩:∃a vs,v=.ref a/\SqT K H a vs/\ff K H _ vs:=by
   cases hv with
   |tup h1 h2=>exact⟨_,_,rfl,h1,h2⟩
  obtain⟨b,us,rfl,hb,hus⟩:∃b us,u=.ref b/\SqT K H b us/\ff K H _ us:=by
   cases hu' with
   |tup h1 h2=>exact⟨_,_,rfl,h1,h2⟩
  have lv:=hvs.len;have lu:=hus.len;refine⟨_,rfl,.inr ⟨_,.ty "tuple",b,us,true,_,rfl,rfl,hb,rfl,(fun _ h=>h),kt,_,rfl,ip ?_⟩⟩;refine⟨_,rfl,.inr ⟨_,.ty "tuple",a,vs,true,_,rfl,rfl,ha,rfl,(fun _ h=>h),kt,_,rfl,eZ ?_⟩⟩;refine⟨_,rfl,a,vs,rfl,.inr ha,_,rfl,b,us,rfl,.inr hb,rfl,_,rfl,?_⟩;refine bf (fun h=>absurd h (by rw[lv,lu];simp)) (fun _=>?_);have small:us.length<=1000:=by lia
  refine⟨_,rfl,b,us,rfl,.inr hb,_,rfl,by lia,by lia,gE (lo:=0) (fun i σ H2=>∃o2:Option V,σ=[some (.ref a),some (.ref b),o2]/\H2=H) ⟨none,rfl,rfl⟩ ?_ ?_⟩
  ·rintro i σ H2 hi ⟨o2,rfl,rfl⟩;refine dw ?_;intro kD1;have iu:i<us.length:=(by lia);obtain⟨x,hx⟩:∃x,vs[i]?=some x:=⟨vs[i]'(by lia),by simp⟩;obtain⟨y,hy⟩:∃y,us[i]?=some y:=⟨us[i]'iu,by simp⟩;obtain⟨d1,e1,hd1⟩:=hvs.at hx;obtain⟨d2,e2,hd2⟩:=hus.at hy;rw[e1]at e2;cases e2;have ax:atI vs (0+(i:Int))=some x:=(by rw[show(0:Int)+(i:Int)=((i:Nat):Int) by omega];exact au hx);have ay:atI us (0+(i:Int))=some y:=(by rw[show(0:Int)+(i:Int)=((i:Nat):Int) by omega];exact au hy);refine⟨_,rfl,_,rfl,a,_,_,_,rfl,rfl,ha,ax,_,rfl,_,rfl,b,_,_,_,rfl,rfl,hb,ay,x,y,_,rfl,hd1,hd2,pls.at e1,?_,_,rfl,eZ ⟨_,rfl,rfl⟩⟩;have:=Ef e1;have dp':PyData.depthAll _+1<m+1:=dp
   lia
  ·rintro σ H2 ⟨o2,rfl,rfl⟩;exact q
 |non=>
  cases hv;cases hu';have k0:kitOne K (.type "NoneType") (.type "tuple")=some false:=by kernel_rfl
  refine⟨_,rfl,.inl ⟨_,_,_,_,rfl,g5.non,k0,_,rfl,eZ ?_⟩⟩;refine⟨_,rfl,rfl,_,rfl,ip ?_⟩;exact⟨_,rfl,rfl,q⟩
 |str x=>
  cases hv;cases hu';have k0:kitOne K (.type "str") (.type "tuple")=some false:=by kernel_rfl
  have k1:kitOne K (.type "str") (.type "str")=some true:=by kernel_rfl
  refine⟨_,rfl,.inl ⟨_,_,_,_,rfl,g5.str x,k0,_,rfl,eZ ?_⟩⟩;refine⟨_,rfl,rfl,_,rfl,eZ ?_⟩;refine⟨_,rfl,.inl ⟨_,_,_,_,rfl,g5.str x,k1,_,rfl,ip ?_⟩⟩;refine⟨_,rfl,.inl ⟨_,_,_,_,rfl,g5.str x,k1,_,rfl,ip ?_⟩⟩;refine⟨_,rfl,_,rfl,rfl,?_⟩;rw[GN rfl];exact q
 |int i=>
  cases hv;cases hu';have k0:kitOne K (.type "int") (.type "tuple")=some false:=by kernel_rfl
  have k1:kitOne K (.type "int") (.type "str")=some false:=by kernel_rfl
  refine⟨_,rfl,.inl ⟨_,_,_,_,rfl,g5.int i,k0,_,rfl,eZ ?_⟩⟩;refine⟨_,rfl,rfl,_,rfl,eZ ?_⟩;refine⟨_,rfl,.inl ⟨_,_,_,_,rfl,g5.int i,k1,_,rfl,eZ ?_⟩⟩;refine⟨_,rfl,_,_,rfl,g5.int i,_,rfl,ip ?_⟩;refine⟨_,rfl,_,rfl,rfl,?_⟩;rw[GN rfl];exact q
include B cY in
theorem mx(T:Tx K mg "_law_alike" (top 59) ["_law_found","_law_due"]):∀m:Nat,Df P w K mg base (m+1) "_law_alike" ["_law_found","_law_due"] (spA K m)
 | 0=>T.dfF (fun vs H Q E ⟨_,_,_,_,_,_,_,dp,_⟩=>absurd dp (Nat.not_lt_zero _))
 |m+1=>sL B cY T (by omega) (mx T m)
include B cY in
theorem tO(T:Tx K mg "_law_alike" (top 59) ["_law_found","_law_due"]):Df P w K mg base 12 "_law_alike" ["_law_found","_law_due"] (mi K):=mx B cY T 11
def kr(K:Frag)(mg:Str->Option Value):Sp:=fun vs H Q _=>∃(a lp:Addr)(ms:List Int)(w h:Nat)(way:Int)(xs:List V)(ps:List Plt)(rs:List (List Key)),vs=[.ref a,.ref lp,.int w,.int h,.int way]/\SqL K H a (ms.map V.int)/\(0<w/\w<=8/\0<h/\h<=8)/\SqL K H lp xs/\Paired (PlE K H) xs ps/\qE w h ((List.range 6).map (g9 way)) rs ps/\(∀p∈ps,PlG rs p)/\(∀r∈rs,aN r≠0)/\∀H',ao H H'->Q (.bl true) H'
variable(gy:Df P w K mg base 13 "_law_agrees" ["_law_script","_law_plots","_law_wide","_law_high","_law_way"] (kr K mg))
theorem aI:aA ["_law_script","_law_plots","_law_wide","_law_high","_law_way","_law_at_here","_law_plot","_law_cell","_law_pool","_law_kind","_law_holder","_law_number","_law_since","_law_signed","_law_until","_law_over","_law_note","_law_burden","_law_ground","_law_row","_law_trust","_law_paper","_law_due","_law_handed","_law_found"] ["_law_script","_law_plots","_law_wide","_law_high","_law_way"] (ak (top 71)):=by trivial
include B m5 cR aJ bV i7 dN fR gY fY bK az cS eR eT dX jc cZ cf vh xQ dA d6 dz gC fm dB dD d4 fh fj dC d5 fu in
theorem qW(T:Tx K mg "_law_agrees" (top 71) ["_law_script","_law_plots","_law_wide","_law_high","_law_way"]):Df P w K mg base 13 "_law_agrees" ["_law_script","_law_plots","_law_wide","_law_high","_law_way"] (kr K mg):=by
 refine T.df aI (by rintro _ _ _ _ ⟨a,lp,ms,w,h,way,xs,ps,rs,rfl,hS,⟨hw,hw8,hh,hh8⟩,hl,pp,O,hG,hnz,q⟩;rfl) ?_;rintro f _ A _ s H _ Q E hr ⟨a,lp,ms,w,h,way,xs,ps,rs,rfl,hS,⟨hw,hw8,hh,hh8⟩,hl,pp,O,hG,hnz,q⟩;have hu:=hr.units;refine aO ?_;intro kX;refine ah 21 (aj (aC (aB fY hr (aa (aB gY hr (aa (pv 21) (aa (aX (aa (pv 2) (aa (pv 3) ag))) (aa (bO (uo rfl) (by rfl) B.list boot_list (aa (bO rh (by rfl) jc (by trivial) (aa (pv 1) ag)) ag)) ag)))) (aa (pv 22) ag))))) ?_;intro kR21 pR21;refine ah 20 (ai (aT ((mB (aD (zU hu) (pv 23) (pv 1) (aE _)) (kP (pY (dE (aB fY hr (aa (pv 24) (aa (pv 22) ag))))))).pt) (aj (aC rO)) aG) pR21) ?_;intro kR20 pR20;refine ah 19 (ai (aw (i:=24) aI.nd rfl (by trivial) (aB gY hr (aa (pv 21) (aa (aX (aa (pv 2) (aa (pv 3) ag))) (aa (pv 23) ag))))) pR20) ?_;intro kR19 pR19;refine ah 18 (ai (aw (i:=23) aI.nd rfl (by trivial) (bO um (by rfl) B.list boot_list (aa (pv 1) ag))) pR19) ?_;intro kR18 pR18;refine ah 17 (ai (aw (i:=22) aI.nd rfl (by trivial) (aB fR hr (aa (pv 19) (aa (pv 1) ag)))) pR18) ?_;intro kR17 pR17;refine ah 16 (aY (aT (aD pf (pv 20) cL (aE _)) (aj (aw (i:=21) aI.nd rfl (by trivial) (zN vh dX hr (aa (pv 11) (aa (pv 12) (aa (pv 13) (aa (pv 5) (aa (pv 9) (aa (pv 10) (aa (aH aL (pv 19) ae (fun _ _=>rfl)) (aa (pv 14) (aa (pv 15) (aa (pv 16) (aa (pv 18) (aa (pv 20) ag))))))))))))))) aG) pR17) ?_;intro kR16 pR16;refine ah 15 (ai (aw (i:=21) aI.nd rfl (by trivial) (zO vh dX hr (aa (pv 11) (aa (pv 12) (aa (pv 13) (aa (pv 5) (aa (pv 9) (aa (pv 10) (aa (aH aL (pv 19) ae (fun _ _=>rfl)) (aa (pv 14) (aa (pv 15) (aa (pv 16) (aa (pv 18) ag))))))))))))) pR16) ?_;intro kR15 pR15;refine ah 14 (ai (aw (i:=20) aI.nd rfl (by trivial) (aH bD (cA (aa cL (aa ae (aa (pv 12) (aa (aq iU ae ae) ag))))) (aB az hr (aa (pv 7) (aa ae (aa ae ag)))) (fun _ _=>rfl))) pR15) ?_;intro kR14 pR14;refine ah 13 (ai (aw (i:=19) aI.nd rfl (by trivial) (aX (aa aR (aa (pv 11) (aa (pv 12) (aa (pv 13) (aa (pv 5) (aa (pv 9) (aa (pv 10) (aa (aq bp (pv 7) (aq bg (aq iU ae ae) ae)) (aa (pv 14) (aa (pv 15) (aa (pv 16) (aa (pv 18) ag)))))))))))))) pR14) ?_;intro kR13 pR13;refine ah 12 (ai (aw (i:=18) aI.nd rfl (by trivial) (aB dN hr (aa (aB aJ hr (aa (pv 0) (aa ae ag))) (aa (pv 5) (aa (pv 6) (aa (pv 2) (aa (pv 3) ag))))))) pR13) ?_;intro kR12 pR12;refine ah 11 (aY (aT (aD cj (pv 9) aR (aE _)) (aj (aw (i:=15) aI.nd rfl (by trivial) (aB eR hr (aa (aB aJ hr (aa (pv 0) (aa ae ag))) (aa (pv 5) (aa (pv 6) (aa (pv 2) (aa (pv 3) ag)))))))) aG) pR12) ?_;intro kR11 pR11;refine ah 10 (aY (aT (aD cj (pv 9) aR (aE _)) (aj (aw (i:=14) aI.nd rfl (by trivial) (aB cS hr (aa (pv 7) (aa ae (aa (pv 4) ag)))))) (aj (aT (aD cj (aB az hr (aa (pv 7) (aa ae (aa ae ag)))) ae (aE _)) (ai (aw (i:=17) aI.nd rfl (by trivial) (aB eT hr (aa (aB aJ hr (aa (pv 0) (aa ae ag))) (aa (pv 6) (aa (pv 8) ag))))) (ai (aw (i:=16) aI.nd rfl (by trivial) (aH aL (pv 17) ae (fun _ _=>rfl))) (ai (aw (i:=12) aI.nd rfl (by trivial) (aH bD (cA (aa (pv 12) (aa (aH aL (pv 17) ae (fun _ _=>rfl)) ag))) (aB az hr (aa (pv 7) (aa ae (aa ae ag)))) (fun _ _=>rfl))) (aj (aw (i:=10) aI.nd rfl (by trivial) (aH bD (cA (aa (pv 10) (aa (aH aL (pv 17) ae (fun _ _=>rfl)) ag))) (aB az hr (aa (pv 7) (aa ae (aa ae ag)))) (fun _ _=>rfl))))))) aG))) pR11) ?_;intro kR10 pR10;refine ah 9 (ai (aw (i:=16) aI.nd rfl (by trivial) ae) pR10) ?_;intro kR9 pR9;refine ah 8 (aY (aw (i:=15) aI.nd rfl (by trivial) ae) pR9) ?_;intro kR8 pR8;refine ah 7 (ai (aw (i:=14) aI.nd rfl (by trivial) ae) pR8) ?_;intro kR7 pR7;refine ah 6 (ai (vS (aB i7 hr (aa (pv 0) (aa (pv 4) ag))) (nq rfl (cV (aM (i:=11) aI.nd rfl (by trivial)) (cV (aM (i:=12) aI.nd rfl (by trivial)) (cV (aM (i:=13) aI.nd rfl (by trivial)) jS))))) pR7) ?_;intro kR6 pR6;refine ah 5 (ai (aw (i:=10) aI.nd rfl (by trivial) (aB bV hr (aa (aB az hr (aa (pv 7) (aa ae (aa ae ag)))) (aa (pv 4) ag)))) pR6) ?_;intro kR5 pR5;refine ah 4 (ai (aw (i:=9) aI.nd rfl (by trivial) (aH bD (cA (aa aR (aa aR (aa aR (aa aR ag))))) (aB az hr (aa (pv 7) (aa ae (aa ae ag)))) (fun _ _=>rfl))) pR5) ?_;intro kR4 pR4;refine ah 3 (ai (jQ (i:=8) aI.nd rfl (by trivial) ["_law_k"] [("_law_script",0),("_law_way",4)] (fC _ ["_law_way","_law_script"]) rfl (by rfl) rfl (by trivial) (by trivial) (aU (by rfl)) (cC (by rfl)) (mC ⟨rfl,rfl⟩ (mC ⟨rfl,rfl⟩ mN)) (mC rfl (mC rfl mN)) (bE (by decide)) (bN (by rfl) B.range (aa ae ag)) (fun _ _ _ _=>aM (i:=0) (show(["_law_k","_law_script","_law_way"]:List Str).Nodup by trivial) rfl (Or.inl rfl) (Or.inr rfl)) (fun _ _ _ _=>bQ) (fun _ _ _ _=>(aB bK hr (aa (pv 0) (aa (aB aJ hr (aa (pv 1) (aa ae ag))) (aa (pv 2) ag)))))) pR4) ?_;intro kR3 pR3;refine ah 2 (ai (aw (i:=7) aI.nd rfl (by trivial) (aB aJ hr (aa (pv 0) (aa ae ag)))) pR3) ?_;intro kR2 pR2;refine ah 1 (ai (aw (i:=6) aI.nd rfl (by trivial) (aB cR hr (aa (pv 1) (aa (pv 5) ag)))) pR2) ?_;intro kR1 pR1;refine⟨_,(ai (aw (i:=5) aI.nd rfl (by trivial) (aB m5 hr (aa (aB aJ hr (aa (pv 0) (aa ae ag))) (aa (pv 1) (aa (aq cu (pv 2) (pv 3)) ag))))) pR1),?_⟩;have dL:rn K mg aP:=⟨cf.mg,⟨xQ,dA,d6,dz,ck,cZ.mg,fu⟩,gC,fm,dB,dD,d4,fh,fj,dC,d5⟩;have hwh:w*h<=64:=Nat.mul_le_mul hw8 hh8;have hwp:0<w*h:=Nat.mul_pos hw hh;have e1:((w:Int)*(h:Int))=((w*h:Nat):Int):=by simp
 have lx:=Gw pp;have l8:=O.len;have hsn:∀x∈((List.range 6).map (g9 way)),PyData.canLay0 (.str x)=true:=fun x hx=>by obtain⟨j,hj,rfl⟩:=Gm.mp hx;exact(tR (G7.mp hj)).1.lay
 have ly:∀p∈ps,(plD p).canLay0=true:=fun p hp=>by obtain⟨v,_,hv⟩:=Paired.right pp hp;exact hv.lay (O.ok p hp).1 hsn
 refine⟨_,rfl,a,ms,6,rfl,hS,_,rfl,_,rfl,_,rfl,_,_,rfl,rfl,.inl ⟨by lia,by lia⟩,_,lp,xs,ps,w*h,congrArg (fun x=>[V.int (ms.getD 6 0),V.ref lp,V.int x]) e1,hl,pp,ly,fun p hp=>⟨(O.ok p hp).2.1,(O.ok p hp).2.2.1⟩,l8,⟨hwp,hwh⟩,fun c H2 hc s2=>?_⟩;have hl2:=s2.seq hl;have pp2:=Paired.imp (fun _ _ y=>PlE.tk s2.tk y) pp;refine⟨_,rfl,_,rfl,lp,xs,_,c,rfl,.inl hl2,vT pp2,by lia,?_⟩;have hpv:cW xs (ps.map (·.g)) c=.non\/∃p,PlE K H2 (cW xs (ps.map (·.g)) c) p/\jk rs p.R/\p.g≠0/\p.g<2^(w*h):=by
  rcases qv (c:=c) pp2 with⟨e,_⟩|⟨v,p,ev,_,_,hp,mp⟩
  ·exact .inl e
  ·exact .inr ⟨p,by rw[ev];exact hp,(hG p mp).nm,(O.ok p mp).2.1,(O.ok p mp).2.2.1⟩
 generalize cW xs (ps.map (·.g)) c=pv at hpv ⊢;refine⟨_,rfl,a,ms,4,rfl,s2.seq hS,?_⟩;generalize ms.getD 4 0=cell;refine⟨13,rfl,by decide,by decide,fun A hA=>?_⟩;refine kJ (n:=13) (lo:=0) (fun i acc H5=>ao H2 H5/\H5 A=some (.lst acc)/\∃rs:List (List Key),Paired (bM K H5) acc rs/\rs.length=i/\∀r∈rs,eE r) ⟨ao.upd hA,af,[],.nil,rfl,fun _ y=>nomatch y⟩ ?_ ?_
 ·rintro i acc H5 hi ⟨s5,h5,rs',pr,lr,br⟩;rw[show(0:Int)+(i:Int)=((i:Nat):Int) by omega];refine dM ?_;intro kq1 kr1;refine⟨_,rfl,_,rfl,a,ms,2,rfl,(s2.trans s5).seq hS,_,rfl,i,_,way,rfl,by omega,fun lb r H6 s6 hb hlay hbur _=>?_⟩;have h6:=s6 _ _ h5;have tk:=TK.lst (o:=.lst (acc++[.ref lb])) h6;have la:=Gw pr;refine⟨h6,aF (by lia),?_,af,rs'++[r],?_,by rw[Gn,lr];rfl,fun x hx=>?_⟩
  ·intro b o e;rw[av (fun y=>by rw[y,hA]at e;cases e)];exact s6 _ _ (s5 _ _ e)
  ·exact Paired.app (Paired.imp (fun _ _ y=>(y.tk s6.tk).tk tk) pr) (.cons (bM.tk tk ⟨hlay,lb,rfl,SqT.of hb⟩) .nil)
  ·rcases Gv.mp hx with y|y
   ·exact br x y
   ·rw[Gk.mp y];exact hbur
 rintro acc H5 ⟨s5,h5,rs',pr,lr,br⟩;have s25:=s2.trans s5;have hpv5:pv=.non\/∃p,PlE K H5 pv p/\jk rs p.R/\p.g≠0/\p.g<2^(w*h):=hpv.imp id fun⟨p,y1,y2⟩=>⟨p,y1.tk s5.tk,y2⟩;refine⟨aK rfl,fun l1 hl1=>?_⟩;have s6:=ao.upd (o:=.lst [V.str "debt",V.str "way",V.str "buy",V.str "note"]) hl1;refine⟨_,rfl,cell,117,4,rfl,by decide,by decide,fun k hk=>?_⟩;obtain⟨kd,hkd,lkd⟩:∃kd:Str,atI [V.str "debt",V.str "way",V.str "buy",V.str "note"] ((k:Nat):Int)=some (.str kd)/\PyData.canLay0 (.str kd)=true:=by
  match k,hk with
  | 0,_=>exact⟨"debt",rfl,by decide+kernel⟩
  | 1,_=>exact⟨"way",rfl,by decide+kernel⟩
  | 2,_=>exact⟨"buy",rfl,by decide+kernel⟩
  | 3,_=>exact⟨"note",rfl,by decide+kernel⟩
 refine⟨l1,_,_,_,rfl,rfl,SqL.of af,hkd,?_⟩;refine⟨_,rfl,cell,118,6,rfl,by decide,by decide,fun j hj=>?_⟩;refine⟨_,rfl,j,way,rfl,hj,?_⟩;have lhd:PyData.canLay0 (.str (g9 way j))=true:=hsn _ (Gm.mpr ⟨j,G7.mpr hj,rfl⟩);generalize g9 way j=hd0 at lhd;have s26:=s25.trans s6;refine⟨_,rfl,_,rfl,a,ms,way,rfl,s26.seq hS,fun lw sg num since ss H7 s7 hrow hsg lss=>?_⟩;refine⟨lw,_,rfl,hrow,rfl,_,_,rfl,_,_,rfl,_,_,rfl,rfl,?_⟩;have s27:=s26.trans s7;have h57:=s7 _ _ (s6 _ _ h5);have pr7:=Paired.imp (fun _ _ y=>(bM.tk s6.tk y).tk s7.tk) pr;have hpv7:pv=.non\/∃p,PlE K H7 pv p/\jk rs p.R/\p.g≠0/\p.g<2^(w*h):=hpv5.imp id fun⟨p,y1,y2⟩=>⟨p,(y1.tk s6.tk).tk s7.tk,y2⟩;clear hkd;refine⟨fun σ' H'=>H'=H7/\σ'=[some (.ref a),some (.ref lp),some (.int w),some (.int h),some (.int way),some (.int c),some pv,some (.int cell),some (.ref A),some (.str kd),some (.str hd0),some (.int num),some (.int since),some (.ref sg),some (.int 0),some (.int 0),none,none,none,none,none,none,none,none,none],⟨rfl,rfl⟩,?_⟩;rintro σ' H7' ⟨rfl,rfl⟩;refine⟨fun σ' H'=>∃(since un nt:Int)(hd:Str)(o17:Option V),σ'=[some (.ref a),some (.ref lp),some (.int w),some (.int h),some (.int way),some (.int c),some pv,some (.int cell),some (.ref A),some (.str kd),some (.str hd),some (.int num),some (.int since),some (.ref sg),some (.int un),some (.int 0),some (.int nt),o17,none,none,none,none,none,none,none]/\ao H7' H'/\PyData.canLay0 (.str hd)=true,?_,?_⟩
 ·refine eI ?_;intro kD2;refine⟨_,rfl,rfl,_,rfl,?_⟩;refine bf (fun h1=>?_) (fun h1=>?_)
  ·exact⟨_,rfl,_,rfl,cell,way,119,rfl,by decide,fun un H' s' _=>⟨since,un,0,hd0,none,rfl,s',lhd⟩⟩
  refine⟨_,rfl,cell,120,2,rfl,by decide,by decide,fun k2 hk2=>⟨rfl,_,rfl,?_⟩⟩;refine bf (fun h2=>?_) (fun h2=>⟨since,0,0,hd0,none,rfl,ao.refl _,lhd⟩);refine⟨_,rfl,a,ms,5,rfl,s27.seq hS,_,rfl,_,rfl,_,pv,A,acc,rs,rfl,hpv7.imp id (fun⟨p,y1,y2,_⟩=>⟨p,y1,y2⟩),h57,⟨rs',pr7,lr,br⟩,fun u r H' s' bur ib=>?_⟩;obtain⟨n,kk,x,m,un,rfl⟩:=ib;obtain⟨lay,ab,rfl,hb⟩:=bur;have lx2:PyData.canLay0 (.str x)=true:=lay (.inr x) (by simp);refine⟨_,rfl,ab,_,_,_,rfl,rfl,hb,au (j:=0) rfl,?_⟩;refine⟨_,rfl,_,rfl,ab,_,_,_,rfl,rfl,hb,au (j:=4) rfl,aK rfl,fun l2 hl2=>?_⟩;have sB:=ao.upd (o:=.lst [V.int since,V.int un]) hl2;refine⟨_,rfl,cell,146,2,rfl,by decide,by decide,fun k3 hk3=>?_⟩;obtain⟨since',e3⟩:∃z:Int,atI [V.int since,V.int un] ((k3:Nat):Int)=some (.int z):=by
   match k3,hk3 with
   | 0,_=>exact⟨_,rfl⟩
   | 1,_=>exact⟨_,rfl⟩
  refine⟨l2,_,_,_,rfl,rfl,SqL.of af,e3,?_⟩;refine⟨_,rfl,_,rfl,ab,_,_,_,rfl,rfl,sB.tup hb,au (j:=2) rfl,aK rfl,fun l3 hl3=>?_⟩;have sC:=ao.upd (o:=.lst [V.str hd0,V.str x]) hl3;refine⟨_,rfl,cell,121,2,rfl,by decide,by decide,fun k4 hk4=>?_⟩;obtain⟨hd',e4,lh4⟩:∃z:Str,atI [V.str hd0,V.str x] ((k4:Nat):Int)=some (.str z)/\PyData.canLay0 (.str z)=true:=by
   match k4,hk4 with
   | 0,_=>exact⟨_,rfl,lhd⟩
   | 1,_=>exact⟨_,rfl,lx2⟩
  exact⟨l3,_,_,_,rfl,rfl,SqL.of af,e4,since',0,n,hd',_,rfl,s'.trans (sB.trans sC),lh4⟩
 rintro σ' H8 ⟨since,un,nt,hd,o17,rfl,s8,lhd⟩;have s28:=s27.trans s8;have hpv8:pv=.non\/∃p,PlE K H8 pv p/\jk rs p.R/\p.g≠0/\p.g<2^(w*h):=hpv7.imp id fun⟨p,y1,y2⟩=>⟨p,y1.tk s8.tk,y2⟩;clear hpv hpv5 hpv7 pr pr7 h5 h57;refine⟨fun σ' H'=>∃ov:Nat,σ'=[some (.ref a),some (.ref lp),some (.int w),some (.int h),some (.int way),some (.int c),some pv,some (.int cell),some (.ref A),some (.str kd),some (.str hd),some (.int num),some (.int since),some (.ref sg),some (.int un),some (.int ov),some (.int nt),o17,none,none,none,none,none,none,none]/\ao H8 H'/\(kd≠("way":Str)->ov=0),?_,?_⟩
 ·refine eI ?_;intro kD3;refine⟨_,rfl,rfl,_,rfl,?_⟩;refine bf (fun h1=>?_) (fun h1=>⟨0,rfl,ao.refl _,fun _=>rfl⟩);exact⟨_,rfl,a,ms,5,rfl,s28.seq hS,_,rfl,_,rfl,_,rfl,_,rfl,_,c,pv,w,h,rs,rfl,hc,hpv8,⟨hw,hw8,hh,hh8⟩,fun g H' s'=>⟨g,rfl,s',fun y=>absurd (V.str.inj (GU h1)) y⟩⟩
 rintro σ' H9 ⟨ov,rfl,s9,hov⟩;have s29:=s28.trans s9;refine⟨_,rfl,a,ms,7,rfl,s29.seq hS,_,rfl,_,rfl,_,rfl,_,rfl,_,c,pv,w,h,rfl,by omega,hpv8.imp id (fun⟨p,y,_⟩=>⟨p,y.tk s9.tk⟩),⟨hw,hw8,hh,hh8⟩,fun gr=>?_⟩;refine⟨_,rfl,_,rfl,_,rfl,_,rfl,_,rfl,_,rfl,_,rfl,_,_,rfl,rfl,⟨by decide,by decide,by decide⟩,_,_,rfl,rfl,_,_,rfl,rfl,(by show(0:Int)<_;decide),_,rfl,_,rfl,_,rfl,_,rfl,aK rfl,fun lr hlr=>?_⟩;have s10:=s29.trans (ao.upd (o:=.tup [V.str "lay",V.int num,V.int since,V.ref sg,V.int c,V.str kd,V.str hd,V.int (cell % ((10:Int)^(12:Int).toNat+1)),V.int un,V.int ov,V.int nt,V.int gr]) hlr);have hr10:SqT K (upd H9 lr (.tup [V.str "lay",V.int num,V.int since,V.ref sg,V.int c,V.str kd,V.str hd,V.int (cell % ((10:Int)^(12:Int).toNat+1)),V.int un,V.int ov,V.int nt,V.int gr])) lr (Du (.str "lay") num since sg ⟨c,kd,hd,cell % ((10:Int)^(12:Int).toNat+1),un,ov,nt,gr⟩):=SqT.of af;have hsg10:=(ao.upd (o:=.tup [V.str "lay",V.int num,V.int since,V.ref sg,V.int c,V.str kd,V.str hd,V.int (cell % ((10:Int)^(12:Int).toNat+1)),V.int un,V.int ov,V.int nt,V.int gr]) hlr).tup ((s8.trans s9).tup hsg);generalize (upd H9 lr (.tup [V.str "lay",V.int num,V.int since,V.ref sg,V.int c,V.str kd,V.str hd,V.int (cell % ((10:Int)^(12:Int).toNat+1)),V.int un,V.int ov,V.int nt,V.int gr]))=H10 at s10 hr10 hsg10 ⊢;refine⟨_,rfl,_,_,rfl,rfl,⟨by decide,by decide,by decide⟩,aK rfl,fun lt hlt=>?_⟩;have s11:=ao.upd (o:=.lst [V.non,V.int 0,V.int since,V.int ((10:Int)^(9:Int).toNat)]) hlt;refine⟨_,rfl,cell,147,4,rfl,by decide,by decide,fun k5 hk5=>?_⟩;obtain⟨tr,etr⟩:∃tr,atI [V.non,V.int 0,V.int since,V.int ((10:Int)^(9:Int).toNat)] ((k5:Nat):Int)=some tr:=by
  match k5,hk5 with
  | 0,_=>exact⟨_,rfl⟩
  | 1,_=>exact⟨_,rfl⟩
  | 2,_=>exact⟨_,rfl⟩
  | 3,_=>exact⟨_,rfl⟩
 refine⟨lt,_,_,_,rfl,rfl,SqL.of af,etr,?_⟩;have s12:=s10.trans s11;have hr12:=s11.tup hr10;have hsg12:=s11.tup hsg10;clear etr hr10 hsg10;generalize (upd H10 lt (.lst [V.non,V.int 0,V.int since,V.int ((10:Int)^(9:Int).toNat)]))=H12 at s12 hr12 hsg12 ⊢;refine⟨_,rfl,_,rfl,_,rfl,_,rfl,_,rfl,_,rfl,_,rfl,lr,_,_,_,rfl,rfl,hr12,au (j:=7) rfl,_,rfl,_,rfl,_,rfl,_,rfl,fun x dx hx hdx ne=>?_⟩;obtain⟨L,eL⟩:∃L:dY,L=⟨c,kd,hd,cell % ((10:Int)^(12:Int).toNat+1),un,ov,nt,gr⟩:=⟨_,rfl⟩;rw[<-eL]at hr12;refine⟨x,aP,dx,sg,num,since,L,.non,by rw[eL];rfl,af,dL,rfl,?_⟩;rw[aZ];have sN:ao H12 (upd (upd H12 dx (.own x)) x (.ins aP dx (mL num since sg L .non))):=(ao.upd hdx).trans (ao.upd (by rw[av (fun y=>ne y.symm)];exact hx));have hxN:(upd (upd H12 dx (.own x)) x (.ins aP dx (mL num since sg L .non))) x=some (.ins aP dx (mL num since sg L .non)):=af;generalize (upd (upd H12 dx (.own x)) x (.ins aP dx (mL num since sg L .non)))=HN at sN hxN ⊢;refine⟨fun σ' H'=>∃(x dx:Addr)(tv:V),σ'=[some (.ref a),some (.ref lp),some (.int w),some (.int h),some (.int way),some (.int c),some pv,some (.int cell),some (.ref A),some (.str kd),some (.str hd),some (.int num),some (.int since),some (.ref sg),some (.int un),some (.int ov),some (.int nt),o17,some (.int gr),some (.ref lr),some tr,some (.ref x),none,none,none]/\ao H12 H'/\H' x=some (.ins aP dx (mL num since sg L tv)),?_,?_⟩
 ·refine eI ?_;intro kD4;refine⟨_,rfl,rfl,_,rfl,?_⟩;refine bf (fun h1=>?_) (fun h1=>⟨x,dx,.non,rfl,sN,hxN⟩);refine⟨_,rfl,_,rfl,_,rfl,_,rfl,_,rfl,_,rfl,_,rfl,lr,_,_,_,rfl,rfl,sN.tup hr12,au (j:=7) rfl,_,rfl,_,rfl,_,rfl,_,rfl,_,rfl,fun x2 dx2 hx2 hdx2 ne2=>?_⟩;refine⟨x2,aP,dx2,sg,num,since,L,tr,by rw[eL];rfl,af,dL,rfl,?_⟩;rw[aZ];exact⟨x2,dx2,tr,rfl,sN.trans ((ao.upd hdx2).trans (ao.upd (by rw[av (fun y=>ne2 y.symm)];exact hx2))),af⟩
 rintro σ' H13 ⟨x,dx,tv,rfl,s13,hx13⟩;have sA:=s12.trans s13;have hGS:∀p∈ps,PlG rs p/\A3 p.S:=fun p hp=>⟨hG p hp,G0 (O.ok p hp).1.gs.len (by rw[Gh,Hx];decide),fun y hy=>hsn y ((O.ok p hp).1.gs.names y hy)⟩;have hL:lR L:=by rw[eL];exact⟨lkd,lhd⟩
 have hc4:L.c<64:=by rw[eL];show c<64;lia
 have hovL:L.kd≠("way":Str)->L.ov=0:=by rw[eL];exact hov
 have hsgA:=s13.tup hsg12;refine⟨_,rfl,_,rfl,lr,lp,sg,.str "lay",num,since,L,ss,xs,ps,rs,rfl,s13.tup hr12,hsgA,lss,sA.seq hl,Paired.imp (fun _ _ y=>PlE.tk sA.tk y) pp,hGS,hnz,hc4,hL,hovL,fun o vd H8 s8 ro hd8=>?_⟩;have s18:=sA.trans s8;have hl8:=s18.seq hl;have pp8:=Paired.imp (fun _ _ y=>PlE.tk s18.tk y) pp;have hsg8:=s8.tup hsgA;have hx8:=s8 _ _ hx13;have plnp:∀p∈ps,Pln (plD p):=fun p hp=>(O.ok p hp).1.pln (by rw[Gh,Hx];decide) O.bur;have hSl:∀p∈ps,p.S.length<=1000:=fun p hp=>G0 (O.ok p hp).1.gs.len (by rw[Gh,Hx];decide);have plno:Pln (outD o):=ro.pln hG plnp hSl;have dpo:(outD o).depth<11:=Nat.lt_succ_of_le (AK o);refine⟨_,rfl,lp,xs,rfl,.inl hl8,fun lh hlh=>?_⟩;have s9:=ao.upd (o:=.lst xs) hlh;have hh9:(upd H8 lh (.lst xs)) lh=some (.lst xs):=af;generalize (upd H8 lh (.lst xs))=H9 at s9 hh9 ⊢;refine⟨_,rfl,_,rfl,_,rfl,aK rfl,fun tf htf=>?_⟩;have s10:=ao.upd (o:=.tup [V.int (w:Nat),V.int (h:Nat)]) htf;have s90:=s9.trans s10;refine⟨_,rfl,x,aP,dx,sg,num,since,L,tv,lh,.ref tf,ss,xs,ps,rs,rfl,s90 _ _ hx8,dL,s90.tup hsg8,lss,SqL.of (s10 _ _ hh9),Paired.imp (fun _ _ y=>PlE.tk s90.tk y) pp8,hGS,HQ hc4,hL,fun o' v H11 s11 ro' hd'=>?_⟩;obtain rfl:=ro'.uniq ro;have s91:=s90.trans s11;have pp11:=Paired.imp (fun _ _ y=>PlE.tk s91.tk y) pp8;have hh11:=s11 _ _ (s10 _ _ hh9);have hl11:=s91.seq hl8;have hd11:=IsD.same s91 hd8;have eqr:PyData.eqv (.list (ps.map plD)) (.list (ps.map plD))=true:=SeqAt.eqv_refl _ (mE ly);have dlp:PyData.depth (.list (ps.map plD))<=50:=G0 (Nat.succ_le_succ (xg ps)) (by decide);refine⟨_,rfl,_,rfl,.list (ps.map plD),.list (ps.map plD),.lst (SqL.of hh11) (pZ pp11),.lst hl11 (pZ pp11),mE ly,mE ly,dlp,_,rfl,?_⟩;rw[eqr];refine eZ ?_;refine⟨_,rfl,_,rfl,v,vd,outD o',rfl,hd',hd11,plno,dpo,_,rfl,eZ ?_⟩;refine⟨_,rfl,_,rfl,_,rfl,aK rfl,fun tf2 htf2=>?_⟩;have s12:=ao.upd (o:=.tup [V.int (w:Nat),V.int (h:Nat)]) htf2;generalize (upd H11 tf2 (.tup [V.int (w:Nat),V.int (h:Nat)]))=H12 at s12 ⊢;refine⟨_,rfl,lp,xs,rfl,s12.seq hl11,fun rv hrv=>?_⟩;have nlp:∀o:HO,SqL K (upd H12 rv o) lp xs:=fun o=>(ao.upd hrv).seq (s12.seq hl11);refine⟨rv,lp,xs,rfl,af,nlp _,fun l2 hl2=>?_⟩;rw[aZ];have nl:l2≠rv:=fun e=>by rw[e,af]at hl2;cases hl2
 replace hl2:(upd H12 rv (qH rv)) l2=none:=by rw[av nl]at hl2 ⊢;exact hl2
 have s13:=(ao.upd (o:=qH rv) hrv).trans (ao.upd (o:=.lst xs.reverse) hl2);have h13:(upd (upd H12 rv (qH rv)) l2 (.lst xs.reverse)) l2=some (.lst xs.reverse):=af;generalize (upd (upd H12 rv (qH rv)) l2 (.lst xs.reverse))=H13 at s13 h13 ⊢;have s93:=s91.trans (s12.trans s13);refine⟨x,aP,dx,sg,num,since,L,tv,l2,.ref tf2,ss,xs.reverse,ps.reverse,rs,rfl,s93 _ _ hx8,dL,s93.tup hsg8,lss,SqL.of h13,Paired.rev (Paired.imp (fun _ _ y=>PlE.tk s93.tk y) pp8),fun p hp=>hGS p (List.mem_reverse.mp hp),HQ hc4,hL,fun o2 v2 H14 s14 ro2 hd2=>?_⟩;obtain rfl:=(ro2.rev O.ap).uniq ro;exact⟨_,rfl,v2,vd,outD o2,rfl,hd2,IsD.same (s93.trans s14) hd8,plno,dpo,q _ (s18.trans (s93.trans s14))⟩
def zv(K:Frag):Sp:=fun vs H Q _=>∃(a:Addr)(ns:List Int),vs=[.ref a]/\SqL K H a (ns.map V.int)/\ns.length<=63/\∀H',Q (.bl true) H'
theorem pV:aA ["_law_script","_law_wide","_law_high","_law_way","_law_plots"] ["_law_script"] (ak (top 72)):=by trivial
include B d9 aJ gy fQ in
theorem DJ{f:Addr}{fd:FuncData}(F:Fun K "law" "law" (top 72) f fd):ir P w K mg base CX0 14 f fd ["_law_script"] (zv K):=by
 refine F.ok pV (by rintro _ _ _ _ ⟨a,ns,rfl,hS,hlen,q⟩;rfl) ?_;rintro _ A _ s H _ Q E hr ⟨a,ns,rfl,hS,hlen,q⟩;have hu:=hr.units;refine aO ?_;intro kX;refine ah 4 (aj (aC (cB (nz hu) rO (bR ["_law_j"] [("_law_script",0),("_law_plots",4),("_law_wide",1),("_law_high",2),("_law_way",3)] (fC _ ["_law_wide","_law_way","_law_script","_law_plots","_law_high"]) rfl (by rfl) rfl (by trivial) (by trivial) (aU (by rfl)) (cC (by rfl)) (mC ⟨rfl,rfl⟩ (mC ⟨rfl,rfl⟩ (mC ⟨rfl,rfl⟩ (mC ⟨rfl,rfl⟩ (mC ⟨rfl,rfl⟩ mN))))) (mC rfl (mC rfl (mC rfl (mC rfl (mC rfl mN))))) (bE (by decide)) (bN (by rfl) B.range (aa ae ag)) (fun _ _ _ _=>aM (i:=0) (show(["_law_j","_law_script","_law_plots","_law_wide","_law_high","_law_way"]:List Str).Nodup by trivial) rfl (Or.inl rfl) (Or.inr rfl)) (fun _ _ _ _=>bQ) (fun _ _ _ _=>(aB gy hr (aa (aB fQ hr (aa (pv 1) (aa (pv 0) ag))) (aa (pv 2) (aa (pv 3) (aa (pv 4) (aa (pv 5) ag)))))))) (by with_unfolding_all rfl)))) ?_;intro kR4 pR4;refine ah 3 (ai (aw (i:=4) pV.nd rfl (by trivial) (aB d9 hr (aa (pv 0) (aa (pv 1) (aa (pv 2) (aa (pv 3) ag)))))) pR4) ?_;intro kR3 pR3;refine ah 2 (ai (aw (i:=3) pV.nd rfl (by trivial) (aq bp (aq cg (aB aJ hr (aa (pv 0) (aa ae ag))) ae) ae)) pR3) ?_;intro kR2 pR2;refine ah 1 (ai (aw (i:=2) pV.nd rfl (by trivial) (aq bg ae (aq bp (aq cg (aB aJ hr (aa (pv 0) (aa ae ag))) ae) ae))) pR2) ?_;intro kR1 pR1;refine⟨_,(ai (aw (i:=1) pV.nd rfl (by trivial) (aq bg ae (aq bp (aB aJ hr (aa (pv 0) (aa ae ag))) ae))) pR1),?_⟩;obtain⟨w,ew,hw,hw8⟩:=CZ (ns.getD 0 0);obtain⟨h,eh,hh,hh8⟩:=CZ (ns.getD 0 0 / 8);refine⟨_,rfl,a,ns,0,rfl,hS,_,_,rfl,rfl,(by show(0:Int)<_;decide),_,_,rfl,rfl,?_⟩;simp only[ew];refine⟨_,rfl,a,ns,0,rfl,hS,_,_,rfl,rfl,⟨by decide,by decide⟩,_,_,rfl,rfl,(by show(0:Int)<_;decide),_,_,rfl,rfl,?_⟩;simp only[eh];refine⟨_,rfl,a,ns,0,rfl,hS,_,_,rfl,rfl,⟨by decide,by decide⟩,_,_,rfl,rfl,(by show(0:Int)<_;decide),?_⟩;refine⟨_,rfl,_,rfl,_,rfl,_,rfl,a,ns,w,h,_,rfl,hS,⟨hw,hw8,hh,hh8⟩,fun lp xs ps rs H1 s1 fr1 h1 pp O hG hnz=>?_⟩;refine⟨3,rfl,by decide,by decide,fun A hA=>?_⟩;refine kJ (n:=3) (lo:=0) (fun i acc H2=>ao H1 H2/\H2 A=some (.lst acc)/\acc=List.replicate i (.bl true)) ⟨ao.upd hA,af,rfl⟩ ?_ ?_
 ·rintro i acc H2 hi ⟨s2,h2,rfl⟩;rw[show(0:Int)+(i:Int)=((i:Nat):Int) by omega];refine dM ?_;intro kq1 kr1;refine⟨_,rfl,_,rfl,a,ns,i,rfl,(s1.trans s2).seq hS,by lia,fun l ms H3 s3 hl=>?_⟩;have s23:=s2.trans s3;refine⟨_,rfl,_,rfl,_,rfl,_,rfl,l,lp,ms,w,h,_,xs,ps,rs,rfl,hl,⟨hw,hw8,hh,hh8⟩,SqL.of (s23 _ _ h1),Paired.imp (fun _ _ y=>PlE.tk s23.tk y) pp,O,hG,hnz,fun H4 s4=>?_⟩;have h4:=s4 _ _ (s3 _ _ h2);refine⟨h4,by rw[List.length_replicate];exact aF (by lia),?_,af,by rw[List.replicate_succ']⟩;intro b o e;rw[av (fun y=>by rw[y,hA]at e;cases e)];exact s4 _ _ (s23 _ _ e)
 rintro acc H2 ⟨s2,h2,rfl⟩;exact⟨.bool false,[.bool true,.bool true,.bool true],.bl _,.inl (.lst (SqL.of h2) (.cons (.bl _) (.cons (.bl _) (.cons (.bl _) .nil)))),rfl,rfl,GP rfl,q _⟩
end
end My
structure PySem.W.Fast:Prop where (tw18098876318297156674 tw16796263796199902143 tw17559338302384881287 tw6454502787530763026 tw10635633626681698807 tw15589895059026193167 tw1935340387449197446 tw3520417957189780599 tw6943123580298912537 tw11947507042160220672 tw5103604570263438022 tw15176184915464161004 tw25888764047972197 tw2083648734610372680 tw14502091287303570733 tw5764855422492141744 tw11893303227150386545 tw6435253208040173863 tw930480446604302532 tw17138629017888391308 tw18197880537245474598 tw7764877832828228543 tw3342696450221374710 tw16739320580420812059 tw3542776387338843630 tw18342598050407085589 tw14113054786495596850 tw10012448593668632868 tw8020327285447685450 tw15031972230724777634 tw8429083365861523686 tw9765657339288351375 tw3630003065140032218 tw2186271525776488586 tw10403228854278844829 tw17331036095842621983 tw11663837266858654949 tw6155295315884700688 tw13818558168591199443 tw5038280969852612588 tw16052875317391269980 tw13009912826645689253 tw13984892271904963296 tw4689116921952507433 tw9098948855887110387 tw16037142491023709731 tw5760394470066750097 tw10987915741000298573 tw13781617074018167397 tw8722931528250928258 tw3970063576948704891 tw12103900156051030693 tw7911276490038597215 tw17169945347913351340 tw17839783772482189164 tw6219487724389734081 tw10580305960386166621 tw11676046915626030111 tw12974828021338798237 tw7536945989806142979 tw7065379325211384390 tw2806433651029258176 tw13788031047981616951 tw16117954821977430029 tw5791389921597737752 tw7764403519888075854 tw2536734618101722825 tw15948211599441928086 tw3253958321673577844 tw17135184437309600577 tw9971313192049227561 tw7341735629620471667 tw10698373144936758987 tw8672359699388419227 tw7686940855322669988 tw13280235744675457534 tw14777035109832600625 tw5816815978646756804 tw17969549534073348493 tw3281113724383667056 tw12366075478136213971 tw6489210107870578997 tw14508286873303635635 tw11241702185539976517 tw4253356331605357122 tw3407690960443635271 tw12805583302409271980 tw2689272348083853422 tw11459169506610151599 tw10664687714095891121 tw2127296456119310948 tw2752151256203273020 tw13118229614854050411 tw14241671143804512581 tw17232650336732695754 tw10375093101345193499 tw17212958634193951217 tw18279795205262105358 tw345171059240361759 tw12512568697086628966 tw10050579157932129147 tw6212637834115472321 tw11944305587137854737 tw6728660911542943405 tw2991395421708071951 tw16136346532439418187 tw13027488807179907645 tw10730886223663658432 tw1016035260899682323 tw7493305183505474719 tw3970577957423875905 tw2906736547754130107 tw2231469875855887328 tw14421601157686634920 tw5625867872688601976 tw3862496819764300269 tw7724609806726254989 tw14287511057634343943 tw8185891640218176710 tw11260729011154751440 tw9525015900291841693 tw2721075732053483517 tw9322100911434593186 tw12116568985866732143 tw8404544969263487452 tw14130772663968387150 tw5562758124163671851 tw15234237342467918578 tw14924106703380339308 tw14765200589998781623 tw3035042671219858506 tw6636780858433012912 tw18379783976675743705 tw7896312509911389567 tw1909961981358920741 tw2660346399254456190 tw12996810450741589481 tw993240428528028736 tw18350644633887169636 tw1093041757468881253 tw14707058235237465993 tw4009236305567036084 tw18295428835628756912 tw10210936916362681048 tw3696078454872703360 tw9533074300042929826 tw17305040029988311492 tw14817033780911972411 tw15596709721642022850 tw15714876634061538909 tw3325297335221404957 tw5533684125707615145 tw14419937278145620702 tw3938679940921018796 tw2962313531282990825 tw10681759479552290844 tw2109032449742510867 tw17421394220737836716 tw9053040237009328743 tw1166292487674319918 tw2498578773133793766 tw2358875759997665149 tw4699651185038441454 tw4049056070080887062 tw12603045298675979791 tw2320614870039042987 tw7177766546668511340 tw5343516134669530542 tw14984470518259655022 tw10933685381204119076 tw14182406108173818203 tw7077727238264433435 tw11992180562828147772 tw8731456064356147457 tw14157415481755365390 tw1369645176153047492 tw8068786572004363685 tw5818774312916868168 tw15280282466812686686 tw12555197411088631442 tw13361541056397730138 tw13245425388330806245 tw8451095429223607520 tw8787539432953915053 tw15398522137470137817 tw9755450323130406451 tw13741755837376400048 tw14329996056105247393 tw16654617607729364328 tw11461636395106271264 tw457842302412546876 tw8914459394999233405 tw13358684240494025386 tw10244288296363140603 tw13424769592480369759 tw18075111069027701438 tw8863150071048807231 tw11056940327169252038 tw16194540878444823992 tw12645965709635489266 tw10477001846770681770 tw10967853888789735262 tw9445070279453381521 tw3106700528923670252 tw7319990538589059102 tw7912489308085565634 tw7830527575516757924 tw8806478367820416935 tw11143923950276820188 tw12470338214239880574 tw10781489693023146818 tw16625834036482649573 tw6055432031365137767 tw9954769107775019576 tw14823681926224729866 tw12756240307603560254 tw17916062993603239946 tw9016372229771629130 tw206605975012276665 tw1124447199942792083 tw14059927444780510740 tw18177139821745928128 tw2603838548094873256 tw2919236081885505434 tw12853208448794187724 tw11512883397336264320 tw3179980331102412299 tw1838782147377805231 tw14565684714377458776 tw14773712744508724585 tw13607738206558654308 tw10499205203047759140 tw5531688924995651325 tw16663524082951645389 tw10314970342302327144 tw11914381219309430081 tw3196133713893101963 tw7355449257555316421 tw3824362990841808369 tw18362100195898762995 tw10232841939447930279 tw7069844196424269790 tw10760084163980204127 tw7616755314191726330 tw12420681289258407003 tw5044231092771776516 tw8274567467780297820 tw4402847577855821267 tw233975124553527716 tw12019749124549452344 tw9335703904406160368 tw7630901387481750847 tw10682634480816871418 tw2337720777302888083 tw1094609010087963847 tw18288787099149025272 tw17398565255265169909 tw129498772009485054 tw8580451898876057603 tw17614258517025376974 tw1036195826214519788 tw11161351242573409058 tw14806433751480809692 tw9947555018531743638 tw10532854194702005140 tw6841470846108945097 tw17856609910260722600 tw9809754859367257057 tw643333744252736515 tw5092251108708247322 tw8411518702374823927 tw2582690147090259902 tw15681296571949397422 tw12224421053482580548 tw7904168905779732876 tw5001670162260301306 tw17801248964063304063 tw11770730370022163609 tw11247496403327537202 tw6666562026272291092 tw2216705848194469208 tw16386260304358055329 tw17757009856292105339 tw5505294632926120028 tw1487439446873874968 tw7282792188587399779 tw4304729000582026197 tw3606427254403115627 tw17872742737874043102 tw5211923054646597411 tw12208446439203092033 tw3023577155931050167 tw6063592480096645372 tw12026762042751951575 tw5546140081533279070 tw10737555355816994760 tw12797602266845082517 tw5381317241198530061 tw5603230628797041169 tw16025993194074141868 tw8457333773131660959 tw17232038025566352917 tw3574259942086067085 tw4564478422051751683 tw16429162541658741992 tw17305282139063595236 tw13437189825538592372 tw5902271435186709247 tw7486188826431736915 tw3136528589125027902 tw4074413829922001986 tw14494775563447519777 tw183435448412068050 tw16985025940664529762 tw18424255176414528058 tw119551798456864838 tw14681167713079685314 tw8951699685235493748 tw8566677930539031274 tw17616090942224623115 tw16814776523598968277 tw1006105445795295223 tw5158171875775514405 tw5876069222724781440 tw15088556245599771938 tw17802972923956099557 tw13928720771719045385 tw12381357971449725648 tw5977676892154559114 tw184088037425367608 tw9563276600599734874 tw832394246484778062 tw14570365482368923166 tw8700691753220266701 tw6951741770180937815 tw1167199233297649357 tw7513045011654179730 tw86617524871625886 tw10321041028139907563 tw14039685618640854314 tw11063131245401553685 tw14203312443389863437 tw16780546257795976577 tw6688195156535026545 tw5291344662444536514 tw17896093360514206747 tw6157445922791430370 tw9072693089224265717 tw14448463699586895635 tw11719686288013115396 tw15435234393908037189 tw6014452433850980897 tw3125590793254586475 tw16786849904123557692 tw12187734795705575508 tw18156719435506580209 tw7585916835946950958 tw16032610261216426763 tw5562943526580454549 tw8853586713923514740 tw4589035201287794838 tw15527703043641736882 tw9367765235551902439 tw3368352054990548126 tw11684177703201143178 tw17583187306986851320 tw11737492066784819694 tw6131484642252925238 tw12843558630877037131 tw10702806252912391359 tw2847603324437516682 tw4909974329958023509 tw13315112335869881871 tw13134671251125438856 tw1568818072784198369 tw2000861409767753360 tw9057883544950693046 tw13624238318232819727 tw17538503911689130739 tw12600695517528365920 tw114195188239361491 tw7462224973521245240 tw7956067440650400996 tw722282283154532922 tw3170426199127085705 tw2765109722188117606 tw5559824343611530333 tw7647134107297227813 tw6735631618286792032 tw14258274700290282864 tw9497183370183581148 tw18000163231948247300 tw244089375370869466 tw16072680201926929662 tw13076660949589674494 tw6047173205782314192 tw13030075628293151085 tw8923089791840437421 tw13608975388441619435 tw17001852939879298305 tw11266912989676174022 tw5132368022531814576 tw7831086952327877686 tw340734503853152805 tw516726784667412546 tw14231573867472517557 tw2867985141363183070 tw16057746962454899450 tw7339063965701294425 tw13511571186532228175 tw17701775540430061456 tw13417345064577100787 tw11698921483749433260 tw14790121099133225692 tw12162135264785797661 tw15673551281633295456 tw7531261047582645400 tw17231397378603648139 tw3102672673658071814 tw16949916683374196063 tw16489933152410797507 tw6855384161297149243 tw7712496305666730562 tw15491332995788855816 tw10043182941527656744 tw7491559324686662779 tw2594877324403787135 tw14210782040713525157 tw8237360489553541875 tw11809051467719878089 tw9602566760591404700 tw205480531977856884 tw12077175249665701119 tw17154468651857062882 tw404010729850594218 tw17175527388814255905 tw15791998146478466151 tw1286757615941954725 tw8543759098280339856 tw16843549223060066146 tw8002089710806127756 tw15312480381806354037 tw1128581266751981130 tw3934034731184333492 tw1064762351787485330 tw16333647844069676799 tw16498526020031269888 tw559161860023070719 tw14166526156290482423 tw12836395034176862389 tw7180969627778755782 tw4812803936468390283 tw9128298549593717377 tw17236903490208480054 tw8944314730345745566 tw13941863346865005464 tw13735434182934125687 tw6745601485441337872 tw1926025755475937622 tw11922787755644421181 tw15017936115309135043 tw6940539890300125418 tw5903744154586211620 tw3320978249480776690 tw12267548090779787122 tw16918524312201883565 tw9125752966812707858 tw16625861473456257618 tw10526809517198545427 tw12618201340265780187 tw14231051674744387047 tw6838308952348268666 tw6404680978436376044 tw7064930161239937363 tw14556186005456369952 tw5309751712074214528 tw247990796634352118 tw15955600190475514211 tw2286029818334901624 tw9021326179699732862 tw9248759278962431231 tw5775158365587876650 tw7514151168065685642 tw5356404467225847110 tw13770848218627969121 tw8614532776631550302 tw7165661102174481862 tw728486554126277043 tw7269833227753591314 tw7711287380480868761 tw3532950763548566663 tw17967472654021061948 tw7151793443570874501 tw17789108309291511634 tw8180146603480648083 tw17457599494897983033 tw1387574215962926081 tw12457491671652416395 tw11179776466698780563 tw12653778229549395230 tw12500709867652056294 tw13224362332774608801 tw8894539259962902660 tw12180943918523303459 tw2766018784644798179 tw1985912611985363263 tw1655551210587478167 tw18334077268625401846 tw17452281205198907897 tw2357763503317246325 tw5811708935344220211 tw14167091802903355514 tw9771716252998927272 tw13132390756034359828 tw12461250283647211342 tw16499954887687685303 tw6913461327120679478 tw16830778647264469221:True)
open PySem PySem.W PyProof.Rows
local macro_rules
 | `(tactic|trivial)=> `(tactic|(dsimp only[L2.KOf];refine' L2.EC (by assumption) (by assumption) ?a ?l ?c ?k (fun _ _ _ _ _ _=>by first|exact L2.DT fun _=>rfl|exact L2.wq fun _ _=>rfl|exact L2.DS fun _ _ _=>rfl|exact L2.DR fun _ _ _ _=>rfl|exact L2.yy fun _ _ _ _ _=>rfl|exact L2.Fg fun _ _ _ _ _ _=>rfl|exact L2.F3 fun _ _ _ _ _ _ _=>rfl);(case a=>k_is);(case l=>k_is);(case c=>k_is);(case k=>k_is)))
set_option maxRecDepth 100000 in
set_option maxHeartbeats 0 in
theorem PySem.Challenge.cw_landroll_k46_lays_and_notes_holds : PySem.Challenge.rw_landroll_k46_lays_and_notes.Holds := by
 w_on;o_law;k_head;(case hw=>w_witness2)
 k_fill
 refine L2.zi (l:=PySem.Challenge.rw_landroll_k46_lays_and_notes) (n:=63) (k:=14) (x:="_law_script") (CX:=L2.CX0) (sp:=My.zv) rfl (by decide) rfl ⟨rfl,by decide,by decide⟩ (fun w h Y=>PySem.W.kIn_of Y) ?F ?S ?C
 case F=>
  intro w mg fa h KX G hmg;have B:L2.Bn mg:=by
   refine' L2.Ft KX G ?z0 ?z1 ?z2 ?z3 ?z4 ?z5 ?z6 ?z7 ?z8 ?z9 ?z10 ?z11 ?z12 ?z13
   (case z0=>k_is);(case z1=>k_is);(case z2=>k_is);(case z3=>k_is);(case z4=>k_is);(case z5=>k_is);(case z6=>k_is);(case z7=>k_is);(case z8=>k_is);(case z9=>k_is);(case z10=>k_is);(case z11=>k_is);(case z12=>k_is);(case z13=>k_is)
  have Dg:L2.TxD (L2.KOf KX) mg "laid" (My.top 24) ["strips","ground","burden","told"] [.none]:=by
   dsimp only[L2.KOf];refine' L2.De KX G ?a ?l ?c ?k ?b1 ?b2
   (case a=>k_is);(case l=>k_is);(case c=>k_is);(case k=>k_is)
   (case b1=>exact fun us hl=>match us,hl with| [_,_,_,_],_=>fun _=>rfl);(case b2=>intro us hl;obtain⟨_,_,_,rfl⟩:=L2.three us hl;exact fun _=>rfl)
  have ED:L2.Tx (L2.KOf KX) mg "law" (My.top 72) ["_law_script"]:=by trivial
  obtain⟨f,fd,F,b,hm⟩:=ED.ex;have e0:=hmg.symm.trans hm;cases e0;obtain⟨oc,od,kV,doc,pm,an,cdv,ct,osl,rfl,lk,hcd⟩:=id F.ex;refine⟨fnOf "law" "law" (L2.bG (My.top 72)) (L2.bj (My.top 72)) (L2.ak (My.top 72)) .none kV doc pm an cdv ct,fun s u=>.of_eq rfl,fun base kb nb=>?_⟩;have jY:∃t,mg "DEEPEST"=some (.int 12 t):=by
   refine' L2.Ce KX G ?a
   (case a=>k_is)
  have vz:mg "sum"=none:=by
   refine' L2.xq KX G ?a
   (case a=>k_is)
  have jc:mg "reversed"=none:=by
   refine' L2.xq KX G ?a
   (case a=>k_is)
  obtain⟨ck,aP,bc,ie,cZ,cf,d8,bC,bu,mU,gp,hV,vh,xQ,dA,d6,dz,gC,fm,dB,dD,d4,fh,fj,dC,d5,fu,jK,iN,jn,Bc⟩:∃ck aP bc ie,L2.dR mg "Paper" ck/\L2.dR mg "Lay" aP/\L2.CI (L2.KOf KX) mg "Paper" ck "__init__"/\L2.dR mg "Falls" bc/\L2.uu (L2.KOf KX) bc/\L2.A8 (L2.KOf KX) mg "Falls" bc/\L2.RdX (L2.KOf KX) bc "word"/\L2.RdX (L2.KOf KX) bc "who"/\L2.MkC (L2.KOf KX) mg "Lay" aP/\L2.Cls (L2.KOf KX) aP/\L2.aW (L2.KOf KX) aP "number"/\L2.aW (L2.KOf KX) aP "since"/\L2.aW (L2.KOf KX) aP "signed"/\L2.aW (L2.KOf KX) aP "at"/\L2.aW (L2.KOf KX) aP "kind"/\L2.aW (L2.KOf KX) aP "holder"/\L2.aW (L2.KOf KX) aP "amount"/\L2.aW (L2.KOf KX) aP "until"/\L2.aW (L2.KOf KX) aP "over"/\L2.aW (L2.KOf KX) aP "note"/\L2.aW (L2.KOf KX) aP "ground"/\L2.aW (L2.KOf KX) aP "trust"/\findIn (L2.KOf KX) (.ref aP) "wanting"=findIn (L2.KOf KX) (.ref ck) "wanting"/\L2.CH (L2.KOf KX) mg "LandError" ie/\L2.A9 (L2.KOf KX) bc "word"/\L2.A9 (L2.KOf KX) bc "who"/\L2.TxX (L2.KOf KX) mg "Falls" bc My.t8 ["self","text","word","who"] "Falls.__init__":=by
   dsimp only[L2.KOf];refine'⟨_,_,_,_,L2.eA KX G ?yX,L2.eA KX G ?C5,L2.Cw KX G ?mS ?mR ?mQ ?mO ?mM,L2.eA KX G ?yY,L2.Bb ?xY ?xX,L2.Cb KX G ?yJ ?yI ?yH ?yG,⟨?qT,?qS,?qR,?qQ⟩,⟨?tE,?tD,?tu,?tq⟩,L2.DP KX G ?D6 ?D5 ?D4,⟨?Ep,?Eo,?En,?Em⟩,?dA,?d6,?dz,?gC,?fm,?dB,?dD,?d4,?fh,?fj,?dC,?d5,L2.two_eq ?oX ?oW,L2.Cv KX G ?t6 ?tZ ?tY ?tX,⟨?qM,?qL,?qK⟩,⟨?sJ,?sI,?sG⟩,L2.Dd KX G ?ze ?zd ?zb ?za ?y9 ?y8 ?y6 ?y0 (fun _ _ _ _ _ _ us hl=>match us,hl with| [_,_,_,_],_=>rfl)⟩
   (case yX=>k_is)
   (case C5=>k_is)
   (case mS=>k_is)
   (case mR=>k_is)
   (case mQ=>k_is)
   (case mO=>k_is)
   (case mM=>k_is)
   (case yY=>k_is)
   (case xY=>k_is)
   (case xX=>kernel_rfl)
   (case yJ=>k_is)
   (case yI=>k_is)
   (case yH=>kernel_rfl)
   (case yG=>k_is)
   (case qT=>kernel_rfl)
   (case qS=>k_is)
   (case qR=>k_is)
   (case qQ=>k_is)
   (case tE=>kernel_rfl)
   (case tD=>k_is)
   (case tu=>k_is)
   (case tq=>k_is)
   (case D6=>k_is)
   (case D5=>k_is)
   (case D4=>k_is)
   (case Ep=>k_is)
   (case Eo=>k_is)
   (case En=>k_is)
   (case Em=>k_is)
   (case dA=>show findIn _ _ _=_;k_is)
   (case d6=>show findIn _ _ _=_;k_is)
   (case dz=>show findIn _ _ _=_;k_is)
   (case gC=>show findIn _ _ _=_;k_is)
   (case fm=>show findIn _ _ _=_;k_is)
   (case dB=>show findIn _ _ _=_;k_is)
   (case dD=>show findIn _ _ _=_;k_is)
   (case d4=>show findIn _ _ _=_;k_is)
   (case fh=>show findIn _ _ _=_;k_is)
   (case fj=>show findIn _ _ _=_;k_is)
   (case dC=>show findIn _ _ _=_;k_is)
   (case d5=>show findIn _ _ _=_;k_is)
   (case oX=>k_is)
   (case oW=>k_is)
   (case t6=>k_is)
   (case tZ=>k_is)
   (case tY=>k_is)
   (case tX=>k_is)
   (case qM=>k_is)
   (case qL=>kernel_rfl)
   (case qK=>k_is)
   (case sJ=>k_is)
   (case sI=>kernel_rfl)
   (case sG=>k_is)
   (case ze=>k_is)
   (case zd=>k_is)
   (case zb=>k_is)
   (case za=>k_is)
   (case y9=>k_is)
   (case y8=>k_is)
   (case y6=>k_is)
   (case y0=>kernel_rfl)
  have ng:L2.TxM (L2.KOf KX) ck "__init__" "Paper.__init__" My.d3 ["self","number","since","signed"] []:=by
   obtain⟨c_,n_,t_⟩:∃c_,L2.dR mg "Paper" c_/\L2.TxM (L2.KOf KX) c_ "__init__" "Paper.__init__" My.d3 ["self","number","since","signed"] []:=by
    dsimp only[L2.KOf];refine'⟨_,L2.eA KX G ?n,L2.jq ?a ?f ?l ?c ?k (fun _ _ _ _ _ _=>L2.DR fun _ _ _ _=>rfl)⟩
    (case n=>k_is);(case a=>k_is);(case f=>k_is);(case l=>k_is);(case c=>k_is);(case k=>k_is)
   obtain rfl:c_=ck:=L2.dR.uniq n_ cZ;exact t_
  have oN:L2.TxM (L2.KOf KX) ck "wanting" "Paper.wanting" My.eK ["self","names"] []:=by
   obtain⟨c_,n_,t_⟩:∃c_,L2.dR mg "Paper" c_/\L2.TxM (L2.KOf KX) c_ "wanting" "Paper.wanting" My.eK ["self","names"] []:=by
    dsimp only[L2.KOf];refine'⟨_,L2.eA KX G ?n,L2.jq ?a ?f ?l ?c ?k (fun _ _ _ _ _ _=>L2.wq fun _ _=>rfl)⟩
    (case n=>k_is);(case a=>k_is);(case f=>k_is);(case l=>k_is);(case c=>k_is);(case k=>k_is)
   obtain rfl:c_=ck:=L2.dR.uniq n_ cZ;exact t_
  have lV:L2.TxM (L2.KOf KX) aP "laid_burden" "Lay.laid_burden" My.dH ["self"] []:=by
   obtain⟨c_,n_,t_⟩:∃c_,L2.dR mg "Lay" c_/\L2.TxM (L2.KOf KX) c_ "laid_burden" "Lay.laid_burden" My.dH ["self"] []:=by
    dsimp only[L2.KOf];refine'⟨_,L2.eA KX G ?n,L2.jq ?a ?f ?l ?c ?k (fun _ _ _ _ _ _=>L2.DT fun _=>rfl)⟩
    (case n=>k_is);(case a=>k_is);(case f=>k_is);(case l=>k_is);(case c=>k_is);(case k=>k_is)
   obtain rfl:c_=aP:=L2.dR.uniq n_ cf;exact t_
  have kL:L2.TxM (L2.KOf KX) aP "cells_within" "Lay.cells_within" My.c7 ["self","plot"] []:=by
   obtain⟨c_,n_,t_⟩:∃c_,L2.dR mg "Lay" c_/\L2.TxM (L2.KOf KX) c_ "cells_within" "Lay.cells_within" My.c7 ["self","plot"] []:=by
    dsimp only[L2.KOf];refine'⟨_,L2.eA KX G ?n,L2.jq ?a ?f ?l ?c ?k (fun _ _ _ _ _ _=>L2.wq fun _ _=>rfl)⟩
    (case n=>k_is);(case a=>k_is);(case f=>k_is);(case l=>k_is);(case c=>k_is);(case k=>k_is)
   obtain rfl:c_=aP:=L2.dR.uniq n_ cf;exact t_
  have pG:L2.TxM (L2.KOf KX) aP "__init__" "Lay.__init__" My.ft ["self","number","since","signed","at","kind","holder","amount","until","over","note","ground","trust"] [.none]:=by
   obtain⟨c_,n_,t_⟩:∃c_,L2.dR mg "Lay" c_/\L2.TxM (L2.KOf KX) c_ "__init__" "Lay.__init__" My.ft ["self","number","since","signed","at","kind","holder","amount","until","over","note","ground","trust"] [.none]:=by
    dsimp only[L2.KOf];refine'⟨_,L2.eA KX G ?n,L2.wX ?a ?f ?l ?c ?k ?b1 ?b2⟩
    (case n=>k_is);(case a=>k_is);(case f=>k_is);(case l=>k_is);(case c=>k_is);(case k=>k_is)
    (case b1=>exact L2.eG fun _=>L2.eG fun _=>L2.eG fun _=>L2.eG fun _=>L2.eG fun _=>L2.eG fun _=>L2.eG fun _=>L2.eG fun _=>L2.eG fun _=>L2.eG fun _=>L2.eG fun _=>L2.eG fun _=>L2.eG fun _=>L2.lenZ fun _=>rfl);(case b2=>exact L2.Ff (L2.eG fun _=>L2.eG fun _=>L2.eG fun _=>L2.eG fun _=>L2.eG fun _=>L2.eG fun _=>L2.eG fun _=>L2.eG fun _=>L2.eG fun _=>L2.eG fun _=>L2.eG fun _=>L2.eG fun _=>L2.lenZ fun _=>rfl))
   obtain rfl:c_=aP:=L2.dR.uniq n_ cf;exact t_
  have oO:L2.TxM (L2.KOf KX) aP "plot_with" "Lay.plot_with" My.eN ["self","plot","strips"] []:=by
   obtain⟨c_,n_,t_⟩:∃c_,L2.dR mg "Lay" c_/\L2.TxM (L2.KOf KX) c_ "plot_with" "Lay.plot_with" My.eN ["self","plot","strips"] []:=by
    dsimp only[L2.KOf];refine'⟨_,L2.eA KX G ?n,L2.jq ?a ?f ?l ?c ?k (fun _ _ _ _ _ _=>L2.DS fun _ _ _=>rfl)⟩
    (case n=>k_is);(case a=>k_is);(case f=>k_is);(case l=>k_is);(case c=>k_is);(case k=>k_is)
   obtain rfl:c_=aP:=L2.dR.uniq n_ cf;exact t_
  have pF:L2.TxM (L2.KOf KX) aP "ask_note" "Lay.ask_note" My.fq ["self","plot"] []:=by
   obtain⟨c_,n_,t_⟩:∃c_,L2.dR mg "Lay" c_/\L2.TxM (L2.KOf KX) c_ "ask_note" "Lay.ask_note" My.fq ["self","plot"] []:=by
    dsimp only[L2.KOf];refine'⟨_,L2.eA KX G ?n,L2.jq ?a ?f ?l ?c ?k (fun _ _ _ _ _ _=>L2.wq fun _ _=>rfl)⟩
    (case n=>k_is);(case a=>k_is);(case f=>k_is);(case l=>k_is);(case c=>k_is);(case k=>k_is)
   obtain rfl:c_=aP:=L2.dR.uniq n_ cf;exact t_
  have kg:L2.TxM (L2.KOf KX) aP "strips_untold" "Lay.strips_untold" My.cT ["self","plot"] []:=by
   obtain⟨c_,n_,t_⟩:∃c_,L2.dR mg "Lay" c_/\L2.TxM (L2.KOf KX) c_ "strips_untold" "Lay.strips_untold" My.cT ["self","plot"] []:=by
    dsimp only[L2.KOf];refine'⟨_,L2.eA KX G ?n,L2.jq ?a ?f ?l ?c ?k (fun _ _ _ _ _ _=>L2.wq fun _ _=>rfl)⟩
    (case n=>k_is);(case a=>k_is);(case f=>k_is);(case l=>k_is);(case c=>k_is);(case k=>k_is)
   obtain rfl:c_=aP:=L2.dR.uniq n_ cf;exact t_
  have lW:L2.TxM (L2.KOf KX) aP "done_untold" "Lay.done_untold" My.dI ["self","plot"] []:=by
   obtain⟨c_,n_,t_⟩:∃c_,L2.dR mg "Lay" c_/\L2.TxM (L2.KOf KX) c_ "done_untold" "Lay.done_untold" My.dI ["self","plot"] []:=by
    dsimp only[L2.KOf];refine'⟨_,L2.eA KX G ?n,L2.jq ?a ?f ?l ?c ?k (fun _ _ _ _ _ _=>L2.wq fun _ _=>rfl)⟩
    (case n=>k_is);(case a=>k_is);(case f=>k_is);(case l=>k_is);(case c=>k_is);(case k=>k_is)
   obtain rfl:c_=aP:=L2.dR.uniq n_ cf;exact t_
  have vI:L2.TxM (L2.KOf KX) aP "done" "Lay.done" My.iP ["self","floor","plots","told"] [.none]:=by
   obtain⟨c_,n_,t_⟩:∃c_,L2.dR mg "Lay" c_/\L2.TxM (L2.KOf KX) c_ "done" "Lay.done" My.iP ["self","floor","plots","told"] [.none]:=by
    dsimp only[L2.KOf];refine'⟨_,L2.eA KX G ?n,L2.wX ?a ?f ?l ?c ?k ?b1 ?b2⟩
    (case n=>k_is);(case a=>k_is);(case f=>k_is);(case l=>k_is);(case c=>k_is);(case k=>k_is)
    (case b1=>exact L2.eG fun _=>L2.eG fun _=>L2.eG fun _=>L2.eG fun _=>L2.lenZ fun _=>rfl);(case b2=>exact L2.Ff (L2.eG fun _=>L2.eG fun _=>L2.eG fun _=>L2.lenZ fun _=>rfl))
   obtain rfl:c_=aP:=L2.dR.uniq n_ cf;exact t_
  have cD:=My.yr (P:=My.Pg) (w:=w) (base:=base) Bc jK iN jn;have xO:=My.DK (P:=My.Pg) (w:=w) (base:=base) (K:=L2.KOf KX) B (by trivial);have m4:=My.yo (P:=My.Pg) (w:=w) (base:=base) (K:=L2.KOf KX) B (by trivial);have gA:=My.qY (P:=My.Pg) (w:=w) (base:=base) (K:=L2.KOf KX) B (by trivial);have ka:=My.wa (P:=My.Pg) (w:=w) (base:=base) (K:=L2.KOf KX) B (by trivial);have eu:=My.mI (P:=My.Pg) (w:=w) (base:=base) B cZ ng;have eU:=My.nF (P:=My.Pg) (w:=w) (base:=base) B cZ oN;have iZ:=My.uM (P:=My.Pg) (w:=w) (base:=base) (K:=L2.KOf KX) B (by trivial);have fw:=My.oR (P:=My.Pg) (w:=w) (base:=base) (K:=L2.KOf KX) B (by trivial);have fO:=My.p8 (P:=My.Pg) (w:=w) (base:=base) (K:=L2.KOf KX) B (by trivial);have m3:=My.yn (P:=My.Pg) (w:=w) (base:=base) (K:=L2.KOf KX) B (by trivial);have cQ:=My.lE (P:=My.Pg) (w:=w) (base:=base) B cf lV;have cN:=My.kl (P:=My.Pg) (w:=w) (base:=base) B cf kL;have aJ:=My.qe (P:=My.Pg) (w:=w) (base:=base) (K:=L2.KOf KX) B (by trivial);have cY:=My.tL (P:=My.Pg) (w:=w) (base:=base) (K:=L2.KOf KX) B (by trivial);have de:=My.uU (P:=My.Pg) (w:=w) (base:=base) (K:=L2.KOf KX) B (by trivial);have hX:=My.tM (P:=My.Pg) (w:=w) (base:=base) (K:=L2.KOf KX) B (by trivial);have aS:=My.v8 (P:=My.Pg) (w:=w) (base:=base) (K:=L2.KOf KX) B (by trivial);have gx:=My.qV (P:=My.Pg) (w:=w) (base:=base) (K:=L2.KOf KX) B (by trivial);have az:=My.uN (P:=My.Pg) (w:=w) (base:=base) (K:=L2.KOf KX) B (by trivial);have bV:=My.uO (P:=My.Pg) (w:=w) (base:=base) (K:=L2.KOf KX) B (by trivial);have j8:=My.v7 (P:=My.Pg) (w:=w) (base:=base) (K:=L2.KOf KX) B (by trivial);have bI:=My.k8 (P:=My.Pg) (w:=w) (base:=base) (K:=L2.KOf KX) B (by trivial);have bH:=My.kY (P:=My.Pg) (w:=w) (base:=base) (K:=L2.KOf KX) B (by trivial);have bL:=My.lB (P:=My.Pg) (w:=w) (base:=base) (K:=L2.KOf KX) B (by trivial);have fP:=My.p9 (P:=My.Pg) (w:=w) (base:=base) (K:=L2.KOf KX) B (by trivial);have i6:=My.uP (P:=My.Pg) (w:=w) (base:=base) (K:=L2.KOf KX) B (by trivial);have hW:=My.tK B m4 (by trivial);have gz:=My.qX B gA (by trivial);have j7:=My.vZ B xO (by trivial);have j9:=My.v9 B fw (by trivial);have hZ:=My.tP B iZ (by trivial);have dX:=My.oU B cZ cf d8 eu pG;have bJ:=My.k9 B de hX (by trivial);have dW:=My.tN B aS gx (by trivial);have dP:=My.k7 B vz az bV j8 (by trivial);have cS:=My.uT B az (by trivial);have cP:=My.lj B az (by trivial);have cR:=My.qc B aS (by trivial);have m5:=My.yp B aS az (by trivial);have dO:=My.kZ B aS az bV (by trivial);have fS:=My.qf B aS (by trivial);have dN:=My.kW B az (by trivial);have eT:=My.nE B az bL (by trivial);have i8:=My.uR B bL (by trivial);have fQ:=My.qa B aJ (by trivial);have ia:=My.tQ B gz (by trivial);have iW:=My.uV B cD bC bu j7 (by trivial);have gq:=My.qZ B cZ cD bC bu eU (by trivial);have eV:=My.nG B cf cD bC bu jY ka oO;have fz:=My.qU B aS dW (by trivial);have bK:=My.lA B az bV bI cS (by trivial);have eQ:=My.nB B de aS az bH dP cP (by trivial);have i7:=My.uQ B aJ bI cS dO (by trivial);have eR:=My.nC B aS az bJ dW (by trivial);have fR:=My.qd B aS bH fP i6 cR fS i8 (by trivial);have gu:=My.rf B cD bC bu iW (by trivial);have fA:=My.oS B cf cD bC bu ia pF;have d9:=My.mH B aJ az bJ fz bK eQ (by trivial);have dU:=My.tJ B hW (by trivial);have qI:=My.BS B j9 dU Dg;have m7:=My.yq B fO hZ dU (by trivial);have cU:=My.jI B cf cQ cN qI m7 kg;have dQ:=My.lF B cf m3 gq eV fA cU lW;have i9:=My.uW B cf cD bC bu gu dQ vI;have gY:=My.uS B cf bC mU gp hV i9 (by trivial);have fY:=My.tO B cY (by trivial);have gy:=My.qW B cZ cf jc vh xQ dA d6 dz gC fm dB dD d4 fh fj dC d5 fu aJ az bV dX cS cR m5 dN eT bK i7 eR fR gY fY (by trivial);exact My.DJ B aJ fQ d9 gy F
 case S=>exact fun K H a ns hl hO hS=>⟨a,ns,rfl,hS,hl,fun _=>rfl⟩
 case C=>exact fun _ _ _ _ h=>h
#print axioms PySem.Challenge.cw_landroll_k46_lays_and_notes_holds
