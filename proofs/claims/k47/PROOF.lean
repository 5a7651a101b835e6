import PyProof.Rows.All
import Wide.All
import OpenK.AllK
import Wide.FinOn
import Lean
import PyProof.EqAt
import PyProof.EqKinds
import PyProof.TupleCall
import PySem.Challenge.RW_landroll_k47_lifts_and_waives
set_option Elab.async false
set_option linter.all false
set_option maxRecDepth 100000
open PySem.W (Frag findIn keepIn mroIn kitOne fnOf codeIn nsIn)
section
open PySem PySem.Spec PyProof.Rows PyProof PySem.W PySem.Calls PySem.Builtin PySem.F
def Fl:=@wpAny_bind
def Fm:=@List.length_map
def Fn:=@Heap.get?_push_of_some
def Fo:=@wpAny_pure
def Fp:=@List.mem_map
def Fq:=@List.mem_singleton
def Fs:=@List.mem_of_getElem?
def Ft:=@List.mem_cons_of_mem
def Fu:=@List.size_toArray
def Fv:=@Nat.le_refl
def Fw:=@List.mem_cons_self
def Fx:=@Paired.length
def Fy:=@List.getElem?_eq_getElem
def Fz:=@List.length_append
def FA:=@if_neg
def FC:=@List.mem_append
def FD:=@List.getElem?_eq_some_iff
def FE:=@Nat.lt_of_lt_of_le
def FF:=@Nat.le_of_ble_eq_true
def FG:=@List.map_cons
def FH:=@if_pos
def FI:=@Heap.lt_size
def FJ:=@List.take_add_one
def FK:=@List.length_take
def FL:=@List.mem_cons
def FN:=@List.map_append
def FO:=@List.getElem?_map
def FP:=@Bool.false_ne_true
def FQ:=@decide_eq_true
def FR:=@List.mem_append_left
def FT:=@Heap.get?_push_size
def FU:=@List.take_length
def FV:=@List.length_cons
def FW:=@Nat.le_trans
def FX:=@List.mem_append_right
def FY:=@decide_eq_false
def FZ:=@PassesOwn.never
def F0:=@Option.some.inj
def F1:=@Nat.zero_le
def F2:=@Option.toList_some
def F3:=@List.append_nil
def F4:=@Nat.ne_of_lt
def F5:=@Nat.succ.inj
def F6:=@List.find?_cons
def F7:=@of_decide_eq_true
def F8:=@wpAny_mono
def F9:=@List.mem_range
def Ga:=@PySem.F.plainAttrs_list
def Gb:=@List.Nodup.length_le_of_subset
def Gd:=@wpS_bind
def Ge:=@PySem.W.mg_none_of
def Gf:=@Nat.pow_le_pow_right
def Gg:=@Int.toNat_natCast
def Gh:=@List.filter_append
def Gi:=@Bool.and_eq_true_iff
def Gj:=@decide_eq_true_eq
def Gk:=@Bool.false_eq_true
def Gm:=@sizeLine_eq
def Gn:=@Decidable.byContradiction
def Gp:=@wpAny_newObj_type
def Gq:=@Int.emod_nonneg
def Gr:=@Int.emod_lt_of_pos
def Gs:=@List.take_append_drop
def Gu:=@Heap.SameBut.update
def Gv:=@List.nodup_cons
def Gw:=@List.mem_of_mem_take
def Gx:=@wpAny_holding
def Gy:=@List.map_singleton
def Gz:=@PySem.F.type_list_append
def GA:=@PySem.F.slot_list_append
def GB:=@List.map_map
def GC:=@List.length_singleton
def GF:=@Heap.get?_update_self
def GG:=@wpAny_call_entry
def GH:=@PyProof.Rows.slot_tuple_getitem
def GI:=@List.pairwise_map
def GJ:=@List.length_range
def GK:=@List.exists_cons_of_length_eq_add_one
def GL:=@Heap.get?_update_other
def GN:=@PySem.W.kia_one
def GO:=@wpS_pure
def GP:=@List.length_drop
def GQ:=@List.any_cons
def GR:=@Ne.symm
def GU:=@wpAny_loadPart_at
def GV:=@List.length_filter_le
def GW:=@Array.getElem?_toList
def GX:=@wpAny_callSpecial?_slot
def GY:=@List.nodup_append
def GZ:=@List.mem_map_of_mem
def G0:=@List.getElem_of_mem
def G1:=@Array.length_toList
def G2:=@PySem.boot_len
def G3:=@Nat.lt_irrefl
def G4:=@Nat.zero_add
def G5:=@Nat.testBit_and
def G6:=@List.length_nil
def G7:=@List.find?_eq_none
def G8:=@List.getElem?_cons_succ
def G9:=@F.slot_dict_keyiterator_next
end
namespace L2
theorem ep3{α β:Type}{A B C:α->β->Prop}{g:Prop}(h:∃x y,A x y/\B x y/\C x y)(k:∀x y,A x y->B x y->C x y->g):g:=by obtain⟨x,y,a,b,c⟩:=h;exact k x y a b c
end L2
namespace L2
open PySem PySem.Spec PyProof.Rows
noncomputable abbrev Key:=Sum Int Str
noncomputable def pf:Key->Value->Bool
 | .inl k,v=>Value.isInt k v
 | .inr x,v=>Value.isStrOf x v
noncomputable def E8(w:World):Key->Int
 | .inl k=>hashInt k
 | .inr x=>hashStr w x
theorem bP:∀{k:Key}{v:Value},pf k v=true->(∃i t,k=Sum.inl i/\v=Value.int i t)\/(∃x t,k=Sum.inr x/\v=Value.str x t)
 | .inl i,v,h=>by obtain⟨t,e⟩:=Value.isInt_shape (k:=i) (v:=v) h;exact .inl ⟨i,t,rfl,e⟩
 | .inr x,v,h=>by obtain⟨t,e⟩:=Value.isStrOf_shape (x:=x) (v:=v) h;exact .inr ⟨x,t,rfl,e⟩
theorem xX(i:Int)(t:Tok):pf (.inl i) (.int i t)=true:=by simp[pf,Value.isInt]
theorem xW(x:Str)(t:Tok):pf (.inr x) (.str x t)=true:=by simp[pf,Value.isStrOf]
theorem Dc(a b:Int):decide ((Sum.inl a:Key)=Sum.inl b)=(a==b):=by
 by_cases e:a=b
 ·subst e;simp
 ·have h:¬(Sum.inl a:Key)=Sum.inl b:=fun q=>e (Sum.inl.inj q);rw[FY h];exact(beq_eq_false_iff_ne.mpr e).symm
theorem C7(a b:Str):decide ((Sum.inr a:Key)=Sum.inr b)=decide (a=b):=by
 by_cases e:a=b
 ·subst e;simp
 ·have h:¬(Sum.inr a:Key)=Sum.inr b:=fun q=>e (Sum.inr.inj q);rw[FY h,FY e]
theorem C9(a:Int)(b:Str):decide ((Sum.inl a:Key)=Sum.inr b)=false:=FY (fun q=>nomatch q)
theorem C8(a:Str)(b:Int):decide ((Sum.inr a:Key)=Sum.inl b)=false:=FY (fun q=>nomatch q)
noncomputable def bp(prog:Program)(w:World):PySem.KeyKind prog w Key where
 is:=pf
 hash:=E8 w
 inj:=fun v a b ha hb=>by
  rcases bP ha with⟨i,t,rfl,rfl⟩|⟨x,t,rfl,rfl⟩
  ·rcases bP hb with⟨j,u,rfl,e⟩|⟨y,u,rfl,e⟩
   ·injection e with e1 _;rw[e1]
   ·exact nomatch e
  ·rcases bP hb with⟨j,u,rfl,e⟩|⟨y,u,rfl,e⟩
   ·exact nomatch e
   ·injection e with e1 _;rw[e1]
 byValue:=fun k v h=>by
  rcases bP h with⟨i,t,rfl,rfl⟩|⟨x,t,rfl,rfl⟩<;>rfl
 pyHash:=fun hv h=>by
  rcases bP hv with⟨i,t,rfl,rfl⟩|⟨x,t,rfl,rfl⟩
  ·exact wpAny_pyHash_int h
  ·exact wpAny_pyHash_str h
 eqBool:=fun hu hv h=>by
  rcases bP hu with⟨i,t,rfl,rfl⟩|⟨x,t,rfl,rfl⟩
  ·rcases bP hv with⟨j,u,rfl,rfl⟩|⟨y,u,rfl,rfl⟩
   ·rw[Dc]at h;exact wpAny_eqBool_int h
   ·rw[C9]at h;exact SeqAt.EqAt.int_str i t y u _ _ _ _ h
  ·rcases bP hv with⟨j,u,rfl,rfl⟩|⟨y,u,rfl,rfl⟩
   ·rw[C8]at h;exact SeqAt.EqAt.str_int x t j u _ _ _ _ h
   ·rw[C7]at h;exact wpAny_eqBool_str h
 «strs»:=fun k x t v h=>by
  rcases bP h with⟨i,u,rfl,e⟩|⟨y,u,rfl,e⟩
  ·exact nomatch e
  ·injection e with e1 _
   subst e1
   cases v<;>rfl
theorem uq(prog:Program)(w:World)(i:Int)(t:Tok):(bp prog w).is (.inl i) (.int i t)=true:=xX i t
theorem uo(prog:Program)(w:World)(x:Str)(t:Tok):(bp prog w).is (.inr x) (.str x t)=true:=xW x t
inductive V where
 |non|bl (b:Bool)|int (i:Int)|str (x:Str)|byt (b:Array UInt8)|flt (b:UInt64)|ref (a:Addr)|ty (n:String)
 deriving DecidableEq
noncomputable def RelV:V->Value->Prop
 | .non,u=>u=Value.none
 | .bl b,u=>u=Value.bool b
 | .int i,u=>∃t,u=Value.int i t
 | .str x,u=>∃t,u=Value.str x t
 | .byt b,u=>∃t,u=Value.bytes b t
 | .flt b,u=>∃t,u=Value.float b t
 | .ref a,u=>u=Value.ref a
 | .ty n,u=>u=Value.type n
abbrev Vals:List V->List Value->Prop:=Paired RelV
theorem Vals.length{xs:List V}{us:List Value}(r:Vals xs us):xs.length=us.length:=Fx r
theorem Vals.get:∀{xs:List V}{us:List Value}{i:Nat}{x:V},Vals xs us->xs[i]?=some x->∃u,us[i]?=some u/\RelV x u
 |_,_,_,_,.nil,e=>by simp at e
 |_,_,0,_,.cons r _,e=>by simp at e;subst e;exact⟨_,rfl,r⟩
 |_,_,i+1,x,.cons _ t,e=>by obtain⟨u,h1,h2⟩:=Vals.get (i:=i) (x:=x) t (by simpa using e);exact⟨u,by simpa using h1,h2⟩
theorem Vals.set{x:V}{u:Value}(r:RelV x u):∀{xs:List V}{us:List Value}(i:Nat),Vals xs us->Vals (xs.set i x) (us.set i u)
 |_,_,_,.nil=>.nil
 |_,_,0,.cons _ t=>.cons r t
 |_,_,i+1,.cons q t=>.cons q (Vals.set r i t)
theorem Vals.append{xs ys:List V}{us ws:List Value}(hI:Vals xs us):Vals ys ws->Vals (xs++ys) (us++ws):=by
 induction hI with
 |nil=>exact fun s=>s
 |cons r t ih=>exact fun s=>.cons r (ih s)
theorem Vals.take:∀{xs:List V}{us:List Value}(n:Nat),Vals xs us->Vals (xs.take n) (us.take n)
 |_,_,0,_=>.nil
 |_,_,_+1,.nil=>.nil
 |_,_,n+1,.cons r t=>.cons r (Vals.take n t)
theorem Vals.drop:∀{xs:List V}{us:List Value}(n:Nat),Vals xs us->Vals (xs.drop n) (us.drop n)
 |_,_,0,r=>r
 |_,_,_+1,.nil=>.nil
 |_,_,n+1,.cons _ t=>Vals.drop n t
noncomputable def hU:Option V->Option Value->Prop
 |some v,some u=>RelV v u
 |none,none=>True
 |_,_=>False
def KV{κ:Type}:List (κ×V)->List (κ×Value)->Prop:=Paired fun(p:κ×V) (q:κ×Value)=>p.1=q.1/\RelV p.2 q.2
noncomputable def kV:Key->V
 | .inl i=>.int i
 | .inr x=>.str x
inductive HO where
 |lst (xs:List V)
 |tup (xs:List V)
 |dK (kvs:List (Key×V))|dT (kvs:List (List Key×V))
 |set (S:Int->Bool) (n:Nat)
 |ins (C dx:Addr) (fs:List (Str×V))
 |own (x:Addr)
 |xd (fs:List (Str×V))
 |met (f x:Addr)
 |rng (lo hi:Int)
 |frz (o:Obj) (u:HO)
 |tbl (ps:Array Value)
 |ext (φ:Heap->Prop)
noncomputable abbrev Hp:=Addr->Option HO
noncomputable def upd(H:Hp)(a:Addr)(o:HO):Hp:=fun b=>if b=a then some o else H b
theorem ae{H:Hp}{a:Addr}{o:HO}:upd H a o a=some o:=by unfold upd;rw[FH rfl]
theorem au{H:Hp}{a b:Addr}{o:HO}(h:b≠a):upd H a o b=H b:=by unfold upd;rw[FA h]
theorem bc{H:Hp}{a:Addr}{o u:HO}:upd (upd H a o) a u=upd H a u:=by funext b;unfold upd;split<;>rfl
theorem gU{H:Hp}{a b:Addr}{o u:HO}(h:H a=some o)(h':H b=some u)(d:o≠u):a≠b:=by intro e;subst e;rw[h]at h';exact d (F0 h')
theorem cZ{H:Hp}{a b:Addr}{o:HO}(h:H a=some o)(h':H b=none):a≠b:=by intro e;subst e;rw[h]at h';cases h'
section
variable(P:Program)(w:World)
noncomputable def bR(H:Hp)(h:Heap)(a:Addr):HO->Prop
 | .lst xs=>xs.length<=sizeLine/\∃(its:List Value)(n:Nat),Vals xs its/\h.get? a=some {cls:=.type "list",data:=.seq its.toArray n}
 | .tup xs=>xs.length<=sizeLine/\∃its:List Value,Vals xs its/\IsTup h a its.toArray
 | .dK kvs=>kvs.length<=sizeLine/\(a==sysModules)=false/\∃vs,KV kvs vs/\h.DictOf (bp P w) a vs
 | .dT kvs=>kvs.length<=sizeLine/\(a==sysModules)=false/\∃xs:List (List Key×Addr×Value),
  Paired (fun(p:List Key×V) (q:List Key×Addr×Value)=>p.1=q.1/\H q.2.1=some (.tup (p.1.map kV))/\RelV p.2 q.2.2) kvs xs/\
  ∃o es ep,h.get? a=some o/\o.ExactDict/\o.data=.dict es ep/\es.toList=xs.map (entryOfKey (tupleKind (bp P w)))/\(xs.map (·.1)).Nodup
 | .set S n=>h.SetOf (intKind P w) a S n
 | .ins C dx fs=>H dx=some (.own a)/\fs.length<=1000/\dx≠a/\h.get? a=some (PySem.W.instObj C dx)/\
  ∃mA,h.Ns1 dx mA/\(∀f,hU (fs.lookup f) (mA f))/\PySem.Within mA (fs.map (·.1))
 | .own _=>∃o,h.get? a=some o
 | .xd fs=>∃mA,h.Ns1 a mA/\∀f,hU (fs.lookup f) (mA f)
 | .rng lo hi=>∃t u v,h.get? a=some {cls:=.type "range",data:=.fields #[.int lo t,.int hi u,.int 1 v]}
 | .frz o u=>h.get? a=some o/\bR H h a u
 | .tbl ps=>h.get? a=some {cls:=.none,data:=.fields ps}
 | .met f x=>h.get? a=some (PySem.W.methodObj (.ref f) (.ref x))
 | .ext φ=>φ h/\(∃o,h.get? a=some o)/\∀h1 h2:Heap,φ h1->(∀o,h1.get? a=some o->h2.get? a=some o)->φ h2
def HOk(H:Hp)(h:Heap):Prop:=∀a o,H a=some o->bR P w H h a o
end
section
variable{P:Program}{w:World}{H H':Hp}{h h':Heap}{a:Addr}{o:HO}
theorem bR.lt(x:bR P w H h a o):a<h.objs.size:=by
 cases o with
 |lst xs=>obtain⟨_,_,_,_,e⟩:=x;exact FI e
 |tup xs=>obtain⟨_,_,_,p⟩:=x;exact p.lt
 |dK kvs=>obtain⟨_,_,_,_,o,_,_,e,_⟩:=x;exact FI e
 |dT kvs=>obtain⟨_,_,_,_,o,_,_,e,_⟩:=x;exact FI e
 |set S n=>obtain⟨o,_,_,_,e,_⟩:=x;exact FI e
 |ins C dx fs=>obtain⟨_,_,_,e,_⟩:=x;exact FI e
 |own y=>obtain⟨_,e⟩:=x;exact FI e
 |xd fs=>obtain⟨_,⟨_,_,_,e,_⟩,_⟩:=x;exact FI e
 |rng lo hi=>obtain⟨_,_,_,e⟩:=x;exact FI e
 |frz ob u=>obtain⟨e,_⟩:=x;exact FI e
 |tbl ps=>exact FI (show h.get? a=some _ from x)
 |met f y=>exact FI (show h.get? a=some _ from x)
 |ext φ=>obtain⟨_,⟨_,e⟩,_⟩:=x;exact FI e
theorem Paired.mapP{α β:Type}{F G:α->β->Prop}{l₁:List α}{l₂:List β}(hI:Paired F l₁ l₂):(∀a b,F a b->G a b)->Paired G l₁ l₂:=by
 induction hI with
 |nil=>exact fun _=>.nil
 |cons r t ih=>exact fun f=>.cons (f _ _ r) (ih f)
theorem bR.stay(x:bR P w H h a o)(k:∀b u,(b=a\/H b=some (.own a))->h.get? b=some u->h'.get? b=some u)
  (ho:∀b,H b=some (.own a)->H' b=some (.own a)) (ht:∀b xs,H b=some (.tup xs)->H' b=some (.tup xs)):bR P w H' h' a o:=by
 induction o with
 |lst xs=>obtain⟨z,its,n,r,e⟩:=x;exact⟨z,its,n,r,k _ _ (.inl rfl) e⟩
 |tup xs=>obtain⟨z,its,r,ob,e,c⟩:=x;exact⟨z,its,r,ob,k _ _ (.inl rfl) e,c⟩
 |dK kvs=>obtain⟨z,y,vs,r,ob,es,ep,e,c⟩:=x;exact⟨z,y,vs,r,ob,es,ep,k _ _ (.inl rfl) e,c⟩
 |dT kvs=>obtain⟨z,y,xs,r,ob,es,ep,e,c⟩:=x;exact⟨z,y,xs,Paired.mapP r fun p q z=>⟨z.1,ht _ _ z.2.1,z.2.2⟩,ob,es,ep,k _ _ (.inl rfl) e,c⟩
 |set S n=>obtain⟨ob,es,ep,t,e,c⟩:=x;exact⟨ob,es,ep,t,k _ _ (.inl rfl) e,c⟩
 |ins C dx fs=>obtain⟨d,z,ne,e,mA,⟨od,es,ep,e2,c⟩,r⟩:=x;exact⟨ho _ d,z,ne,k _ _ (.inl rfl) e,mA,⟨od,es,ep,k _ _ (.inr d) e2,c⟩,r⟩
 |own y=>obtain⟨ob,e⟩:=x;exact⟨ob,k _ _ (.inl rfl) e⟩
 |xd fs=>obtain⟨mA,⟨od,es,ep,e,c⟩,r⟩:=x;exact⟨mA,⟨od,es,ep,k _ _ (.inl rfl) e,c⟩,r⟩
 |rng lo hi=>obtain⟨t,u,v,e⟩:=x;exact⟨t,u,v,k _ _ (.inl rfl) e⟩
 |frz ob u ih=>obtain⟨e,q⟩:=x;exact⟨k _ _ (.inl rfl) e,ih q⟩
 |tbl ps=>have e:h.get? a=some {cls:=.none,data:=.fields ps}:=x;show h'.get? a=some {cls:=.none,data:=.fields ps};exact k a _ (.inl rfl) e
 |met f y=>have e:h.get? a=some (PySem.W.methodObj (.ref f) (.ref y)):=x;show h'.get? a=some (PySem.W.methodObj (.ref f) (.ref y));exact k a _ (.inl rfl) e
 |ext φ=>obtain⟨p,⟨o,e⟩,st⟩:=x;exact⟨st _ _ p fun o q=>k _ _ (.inl rfl) q,⟨o,k _ _ (.inl rfl) e⟩,st⟩
theorem HOk.lt(x:HOk P w H h)(e:H a=some o):a<h.objs.size:=(x a o e).lt
theorem HOk.fresh(x:HOk P w H h)(e:h.objs.size<=a):H a=none:=by
 cases q:H a with
 |none=>rfl
 |some u=>exact absurd (FE (x.lt q) e) (G3 _)
theorem HOk.kept(x:HOk P w H h)(k:∀b u,h.get? b=some u->h'.get? b=some u):HOk P w H h':=fun a o e=>(x a o e).stay (fun b u _ q=>k b u q) (fun _ q=>q) fun _ _ q=>q
theorem HOk.laid(x:HOk P w H h)(k:∀b u,h.get? b=some u->h'.get? b=some u)(hp:h.objs.size<=a)(new:bR P w (upd H a o) h' a o):HOk P w (upd H a o) h':=fun b u e=>by
 have hn:=x.fresh hp;by_cases hb:b=a
 ·subst hb;rw[ae]at e;cases e;exact new
 ·rw[au hb]at e;exact(x b u e).stay (fun c v _ q=>k c v q) (fun c q=>by rw[au (cZ q hn)];exact q) fun c xs q=>by rw[au (cZ q hn)];exact q
end
def Rd(H:Hp)(a:Addr)(u:HO):Prop:=H a=some u\/∃o,H a=some (.frz o u)
theorem Rd.ok{P:Program}{w:World}{H:Hp}{h:Heap}{a:Addr}{u:HO}(r:Rd H a u)(x:HOk P w H h):bR P w H h a u:=by
 rcases r with r|⟨o,r⟩
 ·exact x a u r
 ·obtain⟨_,q⟩:=x a _ r;exact q
noncomputable def Mut:Option HO->Prop
 |some (.lst _)=>True
 |some (.dK _)=>True
 |some (.dT _)=>True
 |some (.set _ _)=>True
 |some (.ins _ _ _)=>True
 |some (.ext _)=>True
 |_=>False
section
variable{P:Program}{w:World}{H:Hp}{h h':Heap}{x e:Addr}{o':HO}
theorem HOk.write(ok:HOk P w H h)(mu:Mut (H x))(he:e=x\/H e=some (.own x))(k:∀b u,b≠e->h.get? b=some u->h'.get? b=some u)(heo:∃u,h'.get? e=some u)
  (new:bR P w (upd H x o') h' x o'):HOk P w (upd H x o') h':=fun b u q=>by
 have nown:∀c y,H c=some (.own y)->c≠x:=fun c y r z=>by subst z;rw[r]at mu;exact mu
 have ntup:∀c xs,H c=some (.tup xs)->c≠x:=fun c xs r z=>by subst z;rw[r]at mu;exact mu
 by_cases hb:b=x
 ·subst hb;rw[ae]at q;cases q;exact new
 ·rw[au hb]at q;by_cases hbe:b=e
  ·have q':H b=some (.own x):=by
    rcases he with z|z
    ·exact absurd (hbe.trans z) hb
    ·rw[hbe];exact z
   rw[q]at q';cases q';obtain⟨v,hv⟩:=heo;exact⟨v,by rw[hbe];exact hv⟩
  ·refine(ok b u q).stay (fun c v hc r=>k c v ?_ r) (fun c r=>by rw[au (nown c b r)];exact r) fun c xs r=>by rw[au (ntup c xs r)];exact r
   rcases hc with rfl|hc
   ·exact hbe
   ·rintro rfl;rcases he with z|z
    ·exact nown c b hc z
    ·rw[hc]at z;cases z;exact hb rfl
end
structure Un(fs ex:List Addr)(H H':Hp)(h h':Heap):Prop where
 keep:∀b o,h.get? b=some o->H b=none->b∉fs->b∉ex->h'.get? b=some o
 slot:∀b o,h.get? b=some o->H b=none->b∈fs->b∉ex->∃sl,h'.get? b=some {o with slots:=sl}
 free:∀b o,h.get? b=some o->H b=none->b∉ex->H' b=none
 there:∀b o,h.get? b=some o->b∉ex->∃o',h'.get? b=some o'
 tups:∀b xs,H b=some (.tup xs)->H' b=some (.tup xs)
 frzs:∀b o u,H b=some (.frz o u)->H' b=some (.frz o u)
 tbls:∀b ps,H b=some (.tbl ps)->∃more,H' b=some (.tbl (ps++more))
section
variable{fs fs' ex ex':List Addr}{H H1 H2:Hp}{h h1 h2 h':Heap}{a x e:Addr}{o:HO}
theorem Un.any(u:Un fs ex H H1 h h1){b:Addr}{ob:Obj}(q:h.get? b=some ob)(n:H b=none)(hx:b∉ex):∃sl,h1.get? b=some {ob with slots:=sl}:=by
 by_cases hb:b∈fs
 ·exact u.slot b ob q n hb hx
 ·exact⟨ob.slots,u.keep b ob q n hb hx⟩
theorem Un.kept(k:∀b u,h.get? b=some u->h'.get? b=some u):Un fs ex H H h h':=
 ⟨fun b ob q _ _ _=>k b ob q,fun b ob q _ _ _=>⟨ob.slots,k b ob q⟩,fun _ _ _ n _=>n,fun b ob q _=>⟨ob,k b ob q⟩,fun _ _ q=>q,fun _ _ _ q=>q,fun _ ps q=>⟨#[],by rw[q];simp⟩⟩
theorem Un.refl:Un fs ex H H h h:=Un.kept fun _ _ q=>q
theorem Un.laid(k:∀b u,h.get? b=some u->h'.get? b=some u)(hp:h.objs.size<=a)(hn:H a=none):Un fs ex H (upd H a o) h h' where
 keep:=fun b u q _ _ _=>k b u q
 slot:=fun b u q _ _ _=>⟨u.slots,k b u q⟩
 free:=fun b u q n _=>by rw[au (F4 (FE (FI q) hp))];exact n
 there:=fun b u q _=>⟨u,k b u q⟩
 tups:=fun b xs q=>by rw[au (cZ q hn)];exact q
 frzs:=fun b u xs q=>by rw[au (cZ q hn)];exact q
 tbls:=fun b ps q=>⟨#[],by rw[au (cZ q hn),q];simp⟩
theorem Un.write(mu:Mut (H x))(he:e=x\/H e=some (.own x))(k:∀b u,b≠e->h.get? b=some u->h'.get? b=some u)(heo:∃u,h'.get? e=some u):Un fs ex H (upd H x o) h h':=by
 have hx:∀b,H b=none->b≠x:=fun b n z=>by subst z;rw[n]at mu;exact mu
 have hb:∀b,H b=none->b≠e:=fun b n z=>by
  subst z;rcases he with r|r
  ·exact hx b n r
  ·rw[n]at r;cases r
 have hm:∀b u,H b=some u->¬Mut (some u)->b≠x:=fun b u q nm z=>by subst z;rw[q]at mu;exact nm mu
 refine⟨fun b u q n _ _=>k b u (hb b n) q,fun b u q n _ _=>⟨u.slots,k b u (hb b n) q⟩,fun b u q n _=>by rw[au (hx b n)];exact n,fun b u q _=>?_,
  fun b xs q=>by rw[au (hm b _ q fun z=>z)];exact q,fun b u xs q=>by rw[au (hm b _ q fun z=>z)];exact q,fun b ps q=>⟨#[],by rw[au (hm b _ q fun z=>z),q];simp⟩⟩
 by_cases hbe:b=e
 ·subst hbe;exact heo
 ·exact⟨u,k b u hbe q⟩
end
noncomputable def trk(h:Heap)(H:Hp):List Addr:=(List.range h.objs.size).filter fun a=>(H a).isSome
noncomputable def sN(h:Heap)(H:Hp):Heap:=PySem.W.hideAll h (trk h H)
theorem x8(h:Heap)(H:Hp):(sN h H).objs.size=h.objs.size:=PySem.W.hideAll_size _ _
theorem zC{h:Heap}{H:Hp}{b:Addr}{o:Obj}(e:h.get? b=some o)(n:H b=none):(sN h H).get? b=some o:=
 PySem.W.hideAll_get _ e fun hm=>by have q:(H b).isSome=true:=(List.mem_filter.mp hm).2;rw[n]at q;simp at q
theorem Bf{h:Heap}{H:Hp}{b:Addr}{o:Obj}(e:(sN h H).get? b=some o):h.get? b=some o/\H b=none:=by
 have e':h.get? b=some o:=PySem.W.of_hideAll (trk h H) e;refine⟨e',?_⟩;cases q:H b with
 |none=>rfl
 |some x=>have hm:b∈trk h H:=List.mem_filter.mpr ⟨F9.mpr (FI e'),by simp[q]⟩;have z:(sN h H).get? b=none:=PySem.W.hideAll_none (trk h H) hm;rw[z]at e;cases e
structure Mod(K:Frag)(mg:Str->Option Value)(base:Heap):Prop where
 kin:K.In base
 glob:base.Ns mainGlobals mg
 blt:∃mb,base.Ns builtinsNs mb/\∀x:Str,x≠"__name__"->mb x=bootBuiltins x
 nolimit:base.NoLimit
structure Cx where
 prog:Program
 w:World
 K:Frag
 mg:Str->Option Value
 base:Heap
 A:Around
 N:List Str
 s₀:Shared
 H₀:Hp
 env:Env
 outer:List Env
 stack:List Env
 ex:List Addr
 fn:Str->Bool
 calm:Bool
 pn:List (Addr×Obj)
 xe:Value->Shared->Prop
noncomputable def frs(l:List Env):List Addr:=l.filterMap (·.frame)
noncomputable abbrev Cx.fs(X:Cx):List Addr:=frs X.outer
def Vis(sc:Scope)(x:Str):Prop:=sc.names.lookup x=some .local\/sc.names.lookup x=some .cell\/sc.names.lookup x=some .free
def Loc(sc:Scope)(x:Str):Prop:=sc.names.lookup x=some .local\/sc.names.lookup x=some .cell
def Look(env:Env)(h:Heap)(m:Str->Option Value)(x:Str)(u:Value):Prop:=
 (env.kindOf x=some .local/\m x=some u)\/((env.kindOf x=some .cell\/env.kindOf x=some .free)/\∃c,env.cells.lookup x=some c/\h.IsCell c (some u))
structure Cx.Ok(X:Cx):Prop where
 mod:Mod X.K X.mg X.base
 kind:X.env.scope.kind=.function
 glob:X.env.globals=mainGlobals
 blt:X.env.builtins=builtinsNs
 above:X.s₀.heap.objs.size<=X.env.locals
 inj:∀x y c,X.env.cells.lookup x=some c->X.env.cells.lookup y=some c->x=y
 has:∀x,(X.env.kindOf x=some .cell\/X.env.kindOf x=some .free)->∃c,X.env.cells.lookup x=some c
 cab:∀x c,X.fn x=true->X.env.cells.lookup x=some c->X.s₀.heap.objs.size<=c
 hd:X.calm=true->X.A.handled=none
 frames:X.A.frames=some X.stack
 stk:X.stack=X.outer\/(X.stack=X.env::X.outer/\X.env.frame=some X.env.locals)
 exf:∀b∈X.ex,b≠X.env.locals/\∀x c,X.env.cells.lookup x=some c->c≠b
 bs:∀b o,X.base.get? b=some o->X.s₀.heap.get? b=some o/\X.H₀ b=none
 bsz:X.base.objs.size<=X.s₀.heap.objs.size
 noex:∀b o,X.base.get? b=some o->b∉X.ex
 exfs:∀b∈X.ex,b∉X.fs
 funs:X.s₀.heap.FunFrames X.base X.outer
 frf:∀b∈X.fs,X.H₀ b=none
structure Inv(X:Cx)(pins:List (Addr×Obj))(σ:List (Option V))(H:Hp)(s:Shared):Prop where
 ok:X.Ok
 os:s.os=X.s₀.os
 bare:AllBare s.gens
 base:Un X.fs X.ex X.H₀ H X.s₀.heap s.heap
 loc:∃m,s.heap.Ns X.env.locals m/\∀(i:Nat)(x:Str)(v:V),X.N[i]?=some x->σ[i]?=some (some v)->Vis X.env.scope x->∃u,RelV v u/\Look X.env s.heap m x u
 cell:∀x c,X.env.cells.lookup x=some c->∃v,s.heap.IsCell c v
 free:H X.env.locals=none
 freeC:∀x c,X.env.cells.lookup x=some c->H c=none
 pin:∀p∈X.pn++pins,s.heap.get? p.1=some p.2/\H p.1=none/\p.1≠X.env.locals/\p.1∉X.fs/\∀v,p.2.data≠ .cell v
 hok:HOk X.prog X.w H s.heap
 len:σ.length=X.N.length
section
variable{X:Cx}{pins:List (Addr×Obj)}{σ:List (Option V)}{H H':Hp}{s:Shared}{h':Heap}
theorem Cx.Ok.nofr(ok:X.Ok){b:Addr}{o:Obj}(e:X.base.get? b=some o):b∉X.fs:=fun hb=>by have:=(ok.funs.mem hb).1;rw[e]at this;cases this
theorem Inv.bs(I:Inv X pins σ H s):∀b o,X.base.get? b=some o->s.heap.get? b=some o/\H b=none:=fun b o e=>⟨I.base.keep b o (I.ok.bs b o e).1 (I.ok.bs b o e).2 (I.ok.nofr e) (I.ok.noex b o e),I.base.free b o (I.ok.bs b o e).1 (I.ok.bs b o e).2 (I.ok.noex b o e)⟩
theorem Inv.bk(I:Inv X pins σ H s):∀b o,X.base.get? b=some o->s.heap.get? b=some o:=fun b o e=>(I.bs b o e).1
theorem Inv.mod(I:Inv X pins σ H s):Mod X.K X.mg X.base:=I.ok.mod
theorem Inv.kIn(I:Inv X pins σ H s):X.K.In s.heap:=I.ok.mod.kin.keeps I.bk
theorem Inv.lt(I:Inv X pins σ H s):X.env.locals<s.heap.objs.size:=let ⟨_,hn,_⟩:=I.loc;hn.lt
theorem Inv.sz(I:Inv X pins σ H s):X.s₀.heap.objs.size<=s.heap.objs.size:=FW I.ok.above (Nat.le_of_lt I.lt)
theorem Inv.nofs(I:Inv X pins σ H s){a:Addr}(h:s.heap.objs.size<=a):a∉X.fs:=fun hb=>by obtain⟨_,o,ho,_⟩:=I.ok.funs.mem hb;exact absurd (FE (FI ho) (FW I.sz h)) (G3 _)
theorem Inv.cne(I:Inv X pins σ H s):∀x c,X.env.cells.lookup x=some c->c≠X.env.locals:=fun x c e z=>by obtain⟨v,o,ho,hd⟩:=I.cell x c e;obtain⟨m,⟨o',es,ep,ho',hd',_⟩,_⟩:=I.loc;rw[z,ho']at ho;cases ho;rw[hd']at hd;cases hd
theorem Inv.funs(I:Inv X pins σ H s):s.heap.FunFrames X.base X.outer:=by
 have all:∀(l:List Env),(∀b∈frs l,b∈X.fs)->X.s₀.heap.FunFrames X.base l->s.heap.FunFrames X.base l:=by
  intro l
  induction l with
  |nil=>intro _ _;trivial
  |cons env r ih=>intro hs hl;obtain⟨hk,⟨L,o,hf,hn,ho,hd⟩,hr⟩:=hl;have hL:L∈X.fs:=hs L (by unfold frs;rw[List.filterMap_cons,hf];exact Fw);obtain⟨sl,e⟩:=I.base.slot L o ho (I.ok.frf L hL) hL fun z=>I.ok.exfs L z hL;exact⟨hk,⟨L,_,hf,hn,e,hd⟩,ih (fun b hb=>hs b (by unfold frs;rw[List.filterMap_cons,hf];exact Ft _ hb)) hr⟩
 exact all X.outer (fun _ hb=>hb) I.ok.funs
theorem Inv.stack(I:Inv X pins σ H s):s.heap.FunFrames X.base X.stack:=by
 rcases I.ok.stk with e|⟨e,hf⟩
 ·rw[e];exact I.funs
 ·rw[e];obtain⟨m,hn,_⟩:=I.loc;refine .cons (by rw[I.ok.kind];decide) hf hn ?_ I.funs;exact Heap.get?_none_of_le (FW I.ok.bsz I.ok.above)
theorem Inv.stkSub(I:Inv X pins σ H s):∀b∈frs X.stack,b∈X.env.locals::X.fs:=fun b hb=>by
 rcases I.ok.stk with e|⟨e,hf⟩
 ·rw[e]at hb;exact Ft _ hb
 ·rw[e]at hb;unfold frs at hb;rw[List.filterMap_cons,hf]at hb;exact hb
theorem Inv.stkFree(I:Inv X pins σ H s):∀b∈frs X.stack,H b=none:=fun b hb=>by
 rcases FL.mp (I.stkSub b hb)with e|hb
 ·rw[e];exact I.free
 ·obtain⟨_,o,ho,_⟩:=I.ok.funs.mem hb;exact I.base.free b o ho (I.ok.frf b hb) fun z=>I.ok.exfs b z hb
theorem Inv.step{g':Array GenState}{t':Nat}{d':Drawn}{ch:List Addr}(I:Inv X pins σ H s)
  (hch:∀b∈ch,(b∈X.ex\/X.s₀.heap.objs.size<=b)/\b≠X.env.locals/\(∀x c,X.env.cells.lookup x=some c->c≠b)/\∀p∈X.pn++pins,p.1≠b)
  (keep:∀b o,b≠X.env.locals->b∉X.fs->b∉ch->s.heap.get? b=some o->H b=none->h'.get? b=some o)
  (slot:∀b o,b≠X.env.locals->b∈X.fs->b∉ch->s.heap.get? b=some o->H b=none->∃sl,h'.get? b=some {o with slots:=sl}) (free:∀b o,b∉ch->s.heap.get? b=some o->H b=none->H' b=none)
  (there:∀b o,b∉ch->s.heap.get? b=some o->∃o',h'.get? b=some o')
  (tups:∀b xs,H b=some (.tup xs)->H' b=some (.tup xs)) (frzs:∀b o u,H b=some (.frz o u)->H' b=some (.frz o u)) (tbls:∀b ps,H b=some (.tbl ps)->∃more,H' b=some (.tbl (ps++more)))
  (ns:∀m,s.heap.Ns X.env.locals m->h'.Ns X.env.locals m) (hok:HOk X.prog X.w H' h') (hg:AllBare g'):
  Inv X pins σ H' {s with heap:=h',gens:=g',drawn:=d',toks:=t'}:=by
 have neL:∀b o,X.s₀.heap.get? b=some o->b≠X.env.locals:=fun b o e=>F4 (FE (FI e) I.ok.above);have neC:∀b o,X.s₀.heap.get? b=some o->b∉X.ex->b∉ch:=fun b o e hx hb=>by
  rcases (hch b hb).1 with z|z
  ·exact hx z
  ·exact absurd (FE (FI e) z) (G3 _)
 have cellK:∀x c,X.env.cells.lookup x=some c->∀v,s.heap.IsCell c v->h'.IsCell c v:=fun x c e v ⟨o,ho,hd⟩=>by
  have nch:c∉ch:=fun z=>(hch c z).2.2.1 x c e rfl;by_cases hc:c∈X.fs
  ·obtain⟨sl,q⟩:=slot c o (I.cne x c e) hc nch ho (I.freeC x c e);exact⟨_,q,hd⟩
  ·exact⟨o,keep c o (I.cne x c e) hc nch ho (I.freeC x c e),hd⟩
 refine⟨I.ok,I.os,hg,⟨fun b o e n hb hx=>?_,fun b o e n hb hx=>?_,fun b o e n hx=>?_,fun b o e hx=>?_,fun b xs e=>tups b xs (I.base.tups b xs e),fun b o xs e=>frzs b o xs (I.base.frzs b o xs e),fun b ps e=>?_⟩,?_,fun x c e=>?_,?_,fun x c e=>?_,fun p hp=>?_,hok,I.len⟩
 ·exact keep b o (neL b o e) hb (neC b o e hx) (I.base.keep b o e n hb hx) (I.base.free b o e n hx)
 ·obtain⟨sl,e1⟩:=I.base.slot b o e n hb hx;obtain⟨sl',e2⟩:=slot b _ (neL b o e) hb (neC b o e hx) e1 (I.base.free b o e n hx);exact⟨sl',e2⟩
 ·obtain⟨o',e1⟩:=I.base.there b o e hx;exact free b o' (neC b o e hx) e1 (I.base.free b o e n hx)
 ·obtain⟨o',e1⟩:=I.base.there b o e hx;exact there b o' (neC b o e hx) e1
 ·obtain⟨m1,e1⟩:=I.base.tbls b ps e;obtain⟨m2,e2⟩:=tbls b _ e1;exact⟨m1++m2,by rw[e2,Array.append_assoc]⟩
 ·obtain⟨m,hn,hl⟩:=I.loc;refine⟨m,ns m hn,fun i x v e1 e2 e3=>?_⟩;obtain⟨u,r,l⟩:=hl i x v e1 e2 e3;refine⟨u,r,?_⟩;rcases l with l|⟨k,c,e,z⟩
  ·exact .inl l
  ·exact .inr ⟨k,c,e,cellK x c e _ z⟩
 ·obtain⟨v,z⟩:=I.cell x c e;exact⟨v,cellK x c e v z⟩
 ·obtain⟨m,⟨o,_,_,ho,_⟩,_⟩:=I.loc;exact free _ o (fun z=>(hch _ z).2.1 rfl) ho I.free
 ·obtain⟨v,o,ho,hd⟩:=I.cell x c e;exact free c o (fun z=>(hch c z).2.2.1 x c e rfl) ho (I.freeC x c e)
 ·obtain⟨e,n,ne,nf,d⟩:=I.pin p hp;have nch:p.1∉ch:=fun z=>(hch p.1 z).2.2.2 p hp rfl;exact⟨keep p.1 p.2 ne nf nch e n,free p.1 p.2 nch e n,ne,nf,d⟩
theorem Inv.un{t':Nat}(I:Inv X pins σ H s)(u:Un X.fs [] H H' s.heap h')(hok:HOk X.prog X.w H' h'):Inv X pins σ H' {s with heap:=h',toks:=t'}:=by
 obtain⟨m,⟨o,es,ep,ho,r⟩,_⟩:=id I.loc;obtain⟨sl,hL⟩:=u.any ho I.free (by simp)
 exact I.step (g':=s.gens) (d':=s.drawn) (ch:=[]) (fun _ z=>nomatch z) (fun b o _ hb _ e n=>u.keep b o e n hb (by simp)) (fun b o _ hb _ e n=>u.slot b o e n hb (by simp)) (fun b o _ e n=>u.free b o e n (by simp)) (fun b o _ e=>u.there b o e (by simp)) u.tups u.frzs u.tbls (fun m' hm=>by
  obtain⟨o',es',ep',ho',r'⟩:=hm;rw[ho]at ho';cases ho'
  exact⟨_,es',ep',hL,r'⟩) hok I.bare
theorem Inv.call{g':Array GenState}{t':Nat}{d':Drawn}{ch:List Addr}(I:Inv X pins σ H s)(u:Un (frs X.stack) ch H H' s.heap h')(hok:HOk X.prog X.w H' h')(hg:AllBare g')
  (hch:∀b∈ch,(b∈X.ex\/X.s₀.heap.objs.size<=b)/\b≠X.env.locals/\(∀x c,X.env.cells.lookup x=some c->c≠b)/\∀p∈X.pn++pins,p.1≠b):
  Inv X pins σ H' {s with heap:=h',gens:=g',drawn:=d',toks:=t'}:=by
 obtain⟨m,⟨o,es,ep,ho,r⟩,_⟩:=id I.loc;obtain⟨sl,hL⟩:=u.any ho I.free fun z=>(hch _ z).2.1 rfl
 exact I.step (ch:=ch) hch (fun b o hL hb hc e n=>u.keep b o e n (fun z=>(FL.mp (I.stkSub b z)).elim hL hb) hc) (fun b o _ _ hc e n=>u.any e n hc) (fun b o hc e n=>u.free b o e n hc) (fun b o hc e=>u.there b o e hc) u.tups u.frzs u.tbls (fun m' hm=>by
  obtain⟨o',es',ep',ho',r'⟩:=hm;rw[ho]at ho';cases ho'
  exact⟨_,es',ep',hL,r'⟩) hok hg
theorem Inv.turned{t':Nat}{it:Addr}(I:Inv X pins σ H s)(k:∀b o,b≠it->s.heap.get? b=some o->h'.get? b=some o)(hn:H it=none)(hL:it≠X.env.locals)
  (h1:it∈X.ex\/X.s₀.heap.objs.size<=it) (h2:∀x c,X.env.cells.lookup x=some c->c≠it) (h3:∀p∈X.pn++pins,p.1≠it):Inv X pins σ H {s with heap:=h',toks:=t'}:=by
 have nit:∀b u,H b=some u->b≠it:=fun b u e z=>by rw[z,hn]at e;cases e
 refine I.step (g':=s.gens) (d':=s.drawn) (ch:=[it]) (fun b hb=>?_) (fun b o _ _ hc e _=>k b o (fun z=>hc (by simp[z])) e) (fun b o _ _ hc e _=>⟨o.slots,k b o (fun z=>hc (by simp[z])) e⟩) (fun _ _ _ _ n=>n)
  (fun b o hc e=>⟨o,k b o (fun z=>hc (by simp[z])) e⟩) (fun _ _ e=>e) (fun _ _ _ e=>e) (fun b ps e=>⟨#[],by rw[e];simp⟩) (fun m hm=>?_) (fun b u e=>?_) I.bare
 ·have e:b=it:=by simpa using hb
  subst e;exact⟨h1,hL,h2,h3⟩
 ·obtain⟨o,es,ep,ho,r⟩:=hm;exact⟨o,es,ep,k _ o (GR hL) ho,r⟩
 ·refine(I.hok b u e).stay (fun c v hc q=>k c v ?_ q) (fun _ q=>q) fun _ _ q=>q;rcases hc with z|z
  ·rw[z];exact nit b u e
  ·exact nit c _ z
theorem Inv.tok(I:Inv X pins σ H s)(t:Nat):Inv X pins σ H {s with toks:=t}:=I.un (h':=s.heap) (t':=t) Un.refl I.hok
theorem Inv.kept{t':Nat}(I:Inv X pins σ H s)(k:∀b u,s.heap.get? b=some u->h'.get? b=some u):Inv X pins σ H {s with heap:=h',toks:=t'}:=I.un (Un.kept k) (I.hok.kept k)
theorem Inv.laid{a:Addr}{o:HO}{t':Nat}(I:Inv X pins σ H s)(k:∀b u,s.heap.get? b=some u->h'.get? b=some u)(hp:s.heap.objs.size<=a)(new:bR X.prog X.w (upd H a o) h' a o):
 Inv X pins σ (upd H a o) {s with heap:=h',toks:=t'}:=I.un (Un.laid k hp (I.hok.fresh hp)) (I.hok.laid k hp new)
theorem Inv.write{x e:Addr}{o:HO}{t':Nat}(I:Inv X pins σ H s)(mu:Mut (H x))(he:e=x\/H e=some (.own x))(k:∀b u,b≠e->s.heap.get? b=some u->h'.get? b=some u)(heo:∃u,h'.get? e=some u)
 (new:bR X.prog X.w (upd H x o) h' x o):Inv X pins σ (upd H x o) {s with heap:=h',toks:=t'}:=I.un (Un.write mu he k heo) (I.hok.write mu he k heo new)
theorem Inv.weak{σ':List (Option V)}(I:Inv X pins σ H s)(hl:σ'.length=σ.length)(w:∀(i:Nat) v,σ'[i]?=some (some v)->σ[i]?=some (some v)):Inv X pins σ' H s:=
 ⟨I.ok,I.os,I.bare,I.base,let ⟨m,hn,hl'⟩:=I.loc;⟨m,hn,fun i x v e1 e2 e3=>hl' i x v e1 (w i v e2) e3⟩,I.cell,I.free,I.freeC,I.pin,I.hok,hl.trans I.len⟩
theorem Inv.pins_of{pins':List (Addr×Obj)}(I:Inv X pins σ H s)(h:∀p∈pins',s.heap.get? p.1=some p.2/\H p.1=none/\p.1≠X.env.locals/\p.1∉X.fs/\∀v,p.2.data≠ .cell v):Inv X pins' σ H s:=
 ⟨I.ok,I.os,I.bare,I.base,I.loc,I.cell,I.free,I.freeC,fun p hp=>(FC.mp hp).elim (fun z=>I.pin p (FR _ z)) (h p),I.hok,I.len⟩
theorem oU{N:List Str}(hN:N.Nodup){i j:Nat}{x:Str}(a:N[i]?=some x)(b:N[j]?=some x):i=j:=by obtain⟨h1,e1⟩:=FD.mp a;obtain⟨h2,e2⟩:=FD.mp b;exact(List.getElem_inj hN).mp (e1.trans e2.symm)
theorem qq{M:Model}{A:Around}{E:Value->Shared->Prop}{i:Nat}{x:Str}{v:V}{u:Value}{Q:Unit->Shared->Prop}(I:Inv X pins σ H s)(hN:X.N.Nodup)(hi:X.N[i]?=some x)(hx:Loc X.env.scope x)(r:RelV v u)
  (h:∀s',Inv X pins (σ.set i (some v)) H s'->(∃a,Heap.SameBut a s.heap s'.heap/\(a=X.env.locals\/X.env.cells.lookup x=some a))->Q () s') (hf:X.fn x=true\/X.env.scope.names.lookup x=some .local:=by first|exact .inl rfl|exact .inr rfl|assumption):wpAny M A (storeName X.env x u) Q E s:=by
 obtain⟨m,hn,hl⟩:=id I.loc;have hcls:(X.env.scope.kind== .class||(X.env.scope.kind== .module&&X.env.locals != X.env.globals))=false:=by rw[I.ok.kind];rfl
 have hiσ:i<σ.length:=by rw[I.len];exact(FD.mp hi).1
 have cne:=I.cne;have tracked:∀{a:Addr}{h':Heap},(∃o,s.heap.get? a=some o/\H a=none)->Heap.SameBut a s.heap h'->HOk X.prog X.w H h':=fun {a h'} ha hs b ob e=>by
  obtain⟨_,_,hfree⟩:=ha;refine(I.hok b ob e).stay (fun c w' hc q=>(hs.2 c ?_).trans q) (fun _ q=>q) fun _ _ q=>q;rintro rfl;rcases hc with rfl|hc
  ·rw[hfree]at e;cases e
  ·rw[hfree]at hc;cases hc
 rcases hx with hk|hk
 ·refine wpAny_storeName_local hk hn (fun h' hn' hs=>?_) hcls;obtain⟨oL,_,_,hoL,_⟩:=id hn;refine h _ ⟨I.ok,I.os,I.bare,⟨fun b o e n hb hx=>?_,fun b o e n hb hx=>?_,I.base.free,fun b o e hx=>?_,I.base.tups,I.base.frzs,I.base.tbls⟩,⟨_,hn',fun j y v' e1 e2 e3=>?_⟩,fun y c e=>?_,I.free,I.freeC,fun p hp=>?_,tracked ⟨oL,hoL,I.free⟩ hs,by simpa using I.len⟩ ⟨_,hs,.inl rfl⟩
  ·exact(hs.2 b (F4 (FE (FI e) I.ok.above))).trans (I.base.keep b o e n hb hx)
  ·obtain⟨sl,e1⟩:=I.base.slot b o e n hb hx;exact⟨sl,(hs.2 b (F4 (FE (FI e) I.ok.above))).trans e1⟩
  ·obtain⟨o',e1⟩:=I.base.there b o e hx;exact⟨o',(hs.2 b (F4 (FE (FI e) I.ok.above))).trans e1⟩
  ·by_cases hj:j=i
   ·subst hj;rw[hi]at e1;cases e1;rw[List.getElem?_set_self hiσ]at e2;cases e2;exact⟨u,r,.inl ⟨hk,by simp⟩⟩
   ·rw[List.getElem?_set_ne (GR hj)]at e2;obtain⟨u',r',q⟩:=hl j y v' e1 e2 e3;refine⟨u',r',?_⟩;rcases q with⟨k,e⟩|⟨k,c,e,z⟩
    ·refine .inl ⟨k,?_⟩;have:y≠x:=fun e=>hj (oU hN e1 (e▸hi));simp[this,e]
    ·exact .inr ⟨k,c,e,z.sameBut hs (cne y c e)⟩
  ·obtain⟨w',z⟩:=I.cell y c e;exact⟨w',z.sameBut hs (cne y c e)⟩
  ·obtain⟨e,n,ne,nf,d⟩:=I.pin p hp;exact⟨(hs.2 p.1 ne).trans e,n,ne,nf,d⟩
 ·have hfn:X.fn x=true:=by
   rcases hf with z|z
   ·exact z
   ·rw[z]at hk;cases hk
  obtain⟨c,hc⟩:=I.ok.has x (.inl hk);obtain⟨w',z⟩:=I.cell x c hc;refine wpAny_storeName_cell I.ok.kind hk hc z (fun h' hc' hs=>?_);obtain⟨oc,hoc,hocd⟩:=id z;refine h {s with heap:=h'} ⟨I.ok,I.os,I.bare,⟨fun b o e n hb hx=>?_,fun b o e n hb hx=>?_,I.base.free,fun b o e hx=>?_,I.base.tups,I.base.frzs,I.base.tbls⟩,⟨m,hn.sameBut hs (GR (cne x c hc)),fun j y v' e1 e2 e3=>?_⟩,fun y c' e=>?_,I.free,I.freeC,fun p hp=>?_,tracked ⟨oc,hoc,I.freeC x c hc⟩ hs,by simpa using I.len⟩ ⟨c,hs,.inr hc⟩
  ·exact(hs.2 b (F4 (FE (FI e) (I.ok.cab x c hfn hc)))).trans (I.base.keep b o e n hb hx)
  ·obtain⟨sl,e1⟩:=I.base.slot b o e n hb hx;exact⟨sl,(hs.2 b (F4 (FE (FI e) (I.ok.cab x c hfn hc)))).trans e1⟩
  ·obtain⟨o',e1⟩:=I.base.there b o e hx;exact⟨o',(hs.2 b (F4 (FE (FI e) (I.ok.cab x c hfn hc)))).trans e1⟩
  ·by_cases hj:j=i
   ·subst hj;rw[hi]at e1;cases e1;rw[List.getElem?_set_self hiσ]at e2;cases e2;exact⟨u,r,.inr ⟨.inl hk,c,hc,hc'⟩⟩
   ·rw[List.getElem?_set_ne (GR hj)]at e2;obtain⟨u',r',q⟩:=hl j y v' e1 e2 e3;refine⟨u',r',?_⟩;rcases q with q|⟨k,c',e,z'⟩
    ·exact .inl q
    ·refine .inr ⟨k,c',e,z'.sameBut hs ?_⟩;rintro rfl;exact hj (oU hN e1 (I.ok.inj _ _ _ e hc▸hi))
  ·by_cases hcc:c'=c
   ·subst hcc;exact⟨_,hc'⟩
   ·obtain⟨w2,z2⟩:=I.cell y c' e;exact⟨w2,z2.sameBut hs hcc⟩
  ·obtain⟨e,n,ne,nf,d⟩:=I.pin p hp;refine⟨(hs.2 p.1 ?_).trans e,n,ne,nf,d⟩;intro q;rw[q,hoc]at e;have q':oc=p.2:=F0 e;exact d w' (by rw[<-q'];exact hocd)
theorem om{M:Model}{A:Around}{E:Value->Shared->Prop}{i:Nat}{x:Str}{v:V}{u:Value}{Q:Unit->Shared->Prop}(I:Inv X pins σ H s)(hN:X.N.Nodup)(hi:X.N[i]?=some x)(hx:Loc X.env.scope x)(r:RelV v u)
  (h:∀s',Inv X pins (σ.set i (some v)) H s'->Q () s') (hf:X.fn x=true\/X.env.scope.names.lookup x=some .local:=by first|exact .inl rfl|exact .inr rfl|assumption):wpAny M A (storeName X.env x u) Q E s:=
 qq I hN hi hx r (fun s' I' _=>h s' I') hf
theorem Inv.call'{s':Shared}{ch:List Addr}(I:Inv X pins σ H s)(ho:s'.os=s.os)(u:Un (frs X.stack) ch H H' s.heap s'.heap)(hok:HOk X.prog X.w H' s'.heap)(hg:AllBare s'.gens)
  (hch:∀b∈ch,(b∈X.ex\/X.s₀.heap.objs.size<=b)/\b≠X.env.locals/\(∀x c,X.env.cells.lookup x=some c->c≠b)/\∀p∈X.pn++pins,p.1≠b):Inv X pins σ H' s':=by
 obtain⟨h',g',d',t',o'⟩:=s';have e:o'=s.os:=ho;subst e;exact I.call (g':=g') (t':=t') (d':=d') u hok hg hch
end
noncomputable abbrev XK:=Value->Option Addr->Hp->Prop
noncomputable abbrev St:=List (Option V)
noncomputable abbrev VK:=V->Hp->Prop
noncomputable abbrev TE:=St->Hp->VK->Prop
noncomputable abbrev TT:=St->Hp->(Bool->Hp->Prop)->Prop
noncomputable abbrev TA:=St->Hp->(List V->Hp->Prop)->Prop
structure Ends where
 nx:St->Hp->Prop
 rt:VK
 bk:St->Hp->Prop:=fun _ _=>False
 ct:St->Hp->Prop:=fun _ _=>False
noncomputable abbrev TS:=Ends->St->Hp->Prop
def EP(X:Cx)(pins:List (Addr×Obj))(σ:St)(Q:VK)(u:Value)(s':Shared):Prop:=∃v H',Inv X pins σ H' s'/\RelV v u/\Q v H'
def TP(X:Cx)(pins:List (Addr×Obj))(σ:St)(Q:Bool->Hp->Prop)(b:Bool)(s':Shared):Prop:=∃H',Inv X pins σ H' s'/\Q b H'
def AP(X:Cx)(pins:List (Addr×Obj))(σ:St)(Q:List V->Hp->Prop)(us:List Value)(s':Shared):Prop:=∃vs H',Inv X pins σ H' s'/\Vals vs us/\Q vs H'
def SP(X:Cx)(pins:List (Addr×Obj))(D:Ends)(f:Flow)(s':Shared):Prop:=
 match f with
 | .next=>∃σ' H',Inv X pins σ' H' s'/\D.nx σ' H'
 | .brk=>∃σ' H',Inv X pins σ' H' s'/\D.bk σ' H'
 | .cont=>∃σ' H',Inv X pins σ' H' s'/\D.ct σ' H'
 | .ret u=>∃v σ' H',Inv X pins σ' H' s'/\RelV v u/\D.rt v H'
def PE(X:Cx)(e:Expr)(t:TE):Prop:=
 ∀(pins:List (Addr×Obj))(s:Shared)(σ:St)(H:Hp)(Q:VK),Inv X pins σ H s->t σ H Q->wpAny (model X.prog X.w) X.A (eval e X.env) (EP X pins σ Q) X.xe s
def PT(X:Cx)(e:Expr)(t:TT):Prop:=
 ∀(pins:List (Addr×Obj))(s:Shared)(σ:St)(H:Hp)(Q:Bool->Hp->Prop),Inv X pins σ H s->t σ H Q->wpAny (model X.prog X.w) X.A (isTrue e X.env (eval e X.env)) (TP X pins σ Q) X.xe s
def PW(X:Cx)(e:Expr)(t:TT):Prop:=
 ∀(whole:Sem Value)(pins:List (Addr×Obj))(s:Shared)(σ:St)(H:Hp)(Q:Bool->Hp->Prop),Inv X pins σ H s->t σ H Q->wpAny (model X.prog X.w) X.A (isTrue e X.env whole) (TP X pins σ Q) X.xe s
theorem PW.pt{X:Cx}{e:Expr}{t:TT}(h:PW X e t):PT X e t:=h _
def PA(X:Cx)(es:List Expr)(t:TA):Prop:=
 ∀(pos:Pos)(pins:List (Addr×Obj))(s:Shared)(σ:St)(H:Hp)(Q:List V->Hp->Prop),Inv X pins σ H s->t σ H Q->wpAny (model X.prog X.w) X.A (spliced (backTo pos (starEach es X.env))) (AP X pins σ Q) X.xe s
def PS(X:Cx)(st:Stmt)(t:TS):Prop:=
 ∀(pins:List (Addr×Obj))(s:Shared)(σ:St)(H:Hp)(D:Ends),Inv X pins σ H s->t D σ H->wpAny (model X.prog X.w) X.A (exec st X.env) (SP X pins D) X.xe s
def PSs(X:Cx)(st:List Stmt)(t:TS):Prop:=
 ∀(pins:List (Addr×Obj))(s:Shared)(σ:St)(H:Hp)(D:Ends),Inv X pins σ H s->t D σ H->wpAny (model X.prog X.w) X.A (execs st X.env) (SP X pins D) X.xe s
theorem thn{α:Type}{t:Sem α}{Q Q':α->Shared->Prop}{M:Model}{A:Around}{E:Value->Shared->Prop}{s:Shared}(h:wpAny M A t Q E s)(hQ:∀a s,Q a s->Q' a s):wpAny M A t Q' E s:=F8 h hQ fun _ _ x=>x
section
variable{X:Cx}
def DJ(i:Nat):TE:=fun σ H Q=>∃v,σ[i]?=some (some v)/\Q v H
def tC(v:V):TE:=fun _ H Q=>Q v H
theorem CD{i:Nat}{x:Str}{pos:Pos}(hN:X.N[i]?=some x)(hv:Vis X.env.scope x)(hd:(x==("__debug__":Str))=false:=by decide)(hcd:(x==("__classdict__":Str))=false:=by decide):PE X (.Name x pos) (DJ i):=by
 intro pins s σ H Q I h;obtain⟨v,e,h⟩:=h;obtain⟨m,hn,hl⟩:=I.loc;obtain⟨u,r,l⟩:=hl i x v hN e hv;have fin:EP X pins σ Q u s:=⟨v,H,I,r,h⟩;rcases l with⟨hk,hm⟩|⟨hk,c,hc,hcell⟩
 ·exact wpAny_Name (wpAny_loadName_local I.ok.kind hk hn hm fin) hd
 ·rcases hk with hk|hk
  ·exact wpAny_Name (wpAny_loadName_cell I.ok.kind hk hc hcell fin) hd
  ·exact wpAny_Name (wpAny_loadName_free I.ok.kind hk hc hcell fin hcd) hd
theorem af{i j pos}:PE X (.Constant (.int i) j pos) (tC (.int i)):=fun _ _ _ H _ I h=>wpAny_Constant_int ⟨.int i,H,I.tok _,⟨_,rfl⟩,h⟩
theorem tY{b j pos}:PE X (.Constant (.bool b) j pos) (tC (.bl b)):=fun _ _ _ H _ I h=>Constant_bool ⟨.bl b,H,I,rfl,h⟩
theorem cH{j pos}:PE X (.Constant .none j pos) (tC .non):=fun _ _ _ H _ I h=>Constant_none ⟨.non,H,I,rfl,h⟩
theorem aS{x j pos}:PE X (.Constant (.str x) j pos) (tC (.str x)):=fun _ _ _ H _ I h=>Calls.Constant_str ⟨.str x,H,I.tok _,⟨_,rfl⟩,h⟩
def Gl(X:Cx)(x:Str):Prop:=X.env.kindOf x=some .globalImplicit
theorem jC{E:Value->Shared->Prop}{pins:List (Addr×Obj)}{s:Shared}{σ:St}{H:Hp}{x:Str}{u:Value}{pos:Pos}{Q:Value->Shared->Prop}(I:Inv X pins σ H s)(hg:Gl X x)(hm:X.mg x=some u)(h:Q u s)
  (hd:(x==("__debug__":Str))=false:=by decide):wpAny (model X.prog X.w) X.A (eval (.Name x pos) X.env) Q E s:=
 Calls.Name_function_global I.ok.kind hg (Calls.loadGlobal_global (by rw[I.ok.glob];exact I.mod.glob.keeps I.bk) hm h) hd
theorem mM{E:Value->Shared->Prop}{pins:List (Addr×Obj)}{s:Shared}{σ:St}{H:Hp}{x:Str}{u:Value}{pos:Pos}{Q:Value->Shared->Prop}(I:Inv X pins σ H s)(hg:Gl X x)(hm:X.mg x=none)(hv:bootBuiltins x=some u)(h:Q u s)
  (hn:x≠"__name__":=by decide) (hd:(x==("__debug__":Str))=false:=by decide):wpAny (model X.prog X.w) X.A (eval (.Name x pos) X.env) Q E s:=by
 obtain⟨mb,h1,h2⟩:=I.mod.blt;exact Calls.Name_function_global I.ok.kind hg (Calls.loadGlobal_builtin (by rw[I.ok.glob];exact I.mod.glob.keeps I.bk) hm (by rw[I.ok.blt];exact h1.keeps I.bk) ((h2 x hn).trans hv) h) hd
theorem wy{x:Str}{v:V}{u:Value}{pos:Pos}(hg:Gl X x)(hm:X.mg x=some u)(r:RelV v u)(hd:(x==("__debug__":Str))=false:=by decide):PE X (.Name x pos) (tC v):=
 fun _ _ _ H _ I h=>jC I hg hm ⟨v,H,I,r,h⟩ hd
theorem jA{x:Str}{v:V}{u:Value}{pos:Pos}(hg:Gl X x)(hm:X.mg x=none)(hv:bootBuiltins x=some u)(r:RelV v u)(hn:x≠"__name__":=by decide)(hd:(x==("__debug__":Str))=false:=by decide):PE X (.Name x pos) (tC v):=
 fun _ _ _ H _ I h=>mM I hg hm hv ⟨v,H,I,r,h⟩ hn hd
variable{a b:Expr}{ta tb:TE}{pos:Pos}
def PC(X:Cx)(op:CmpOp)(a b:Expr)(t:TE):Prop:=
 ∀(pins:List (Addr×Obj))(s:Shared)(σ:St)(H:Hp)(Q:VK),Inv X pins σ H s->t σ H Q->
  wpAny (model X.prog X.w) X.A (eval a X.env) (fun v s₁=>wpAny (model X.prog X.w) X.A (eval b X.env) (fun u s₂=>wpAny (model X.prog X.w) X.A (compareOp op v u) (EP X pins σ Q) X.xe s₂) X.xe s₁) X.xe s
def tB(t:TE):TT:=fun σ H Q=>t σ H fun x H1=>∃c,x=.bl c/\Q c H1
theorem CA{op:CmpOp}{t:TE}(h:PC X op a b t)(h1:behindInMarks op b=false:=by first|exact nobehind _ (by decide) (by decide)|rfl):PT X (.Compare a [op] [b] pos) (tB t):=by intro pins s σ H Q I hw;refine wpAny_isTrue_Compare1 (thn (h pins s σ H _ I hw) fun v s1 h1=>thn h1 fun u s2 h2=>thn h2 fun c s3 hPz=>?_) h1;obtain⟨x,H1,I1,r1,q1⟩:=hPz;obtain⟨d,rfl,q⟩:=q1;cases r1;exact wpAny_truthy_bool ⟨H1,I1,q⟩
theorem eY{e:Expr}{t:TE}(h:PE X e t)(he:∀whole,isTrue e X.env whole=(do let v <-whole;standAt e.pos;holding [v] (truthy v)):=by intro _;rfl):PT X e (tB t):=by intro pins s σ H Q I hw;refine isTrue_plain (thn (h pins s σ H _ I hw) fun v s1 hPz=>?_) (he _);obtain⟨x,H1,I1,r1,q1⟩:=hPz;obtain⟨d,rfl,q⟩:=q1;cases r1;exact wpAny_truthy_bool ⟨H1,I1,q⟩
variable{tA tB':TT}{rest:List Expr}
def EU(t u:TT):TT:=fun σ H Q=>t σ H fun c H1=>if c=true then u σ H1 Q else Q false H1
def tOr(t u:TT):TT:=fun σ H Q=>t σ H fun c H1=>if c=true then Q true H1 else u σ H1 Q
def EK(t:TT):TT:=fun σ H Q=>t σ H fun c H1=>Q (!c) H1
theorem wd(ha:PT X a tA):PW X (.BoolOp .And [a] pos) tA:=by
 intro wh pins s σ H Q I h;refine isTrue_and (thn (ha pins s σ H Q I h) fun c s1 e=>?_);cases c with
 |true=>exact isTrue_and_nil e
 |false=>exact e
theorem jd(ha:PT X a tA):PW X (.BoolOp .Or [a] pos) tA:=by
 intro wh pins s σ H Q I h;refine isTrue_or (thn (ha pins s σ H Q I h) fun c s1 e=>?_);cases c with
 |false=>exact isTrue_or_nil e
 |true=>exact e
theorem yX(ha:PT X a tA)(hb:PW X (.BoolOp .And (b::rest) pos) tB'):PW X (.BoolOp .And (a::b::rest) pos) (EU tA tB'):=by
 intro wh pins s σ H Q I h;refine isTrue_and (thn (ha pins s σ H _ I h) fun c s1 hPz=>?_);obtain⟨H1,I1,q1⟩:=hPz;cases c with
 |true=>exact hb wh pins s1 σ H1 Q I1 q1
 |false=>exact⟨H1,I1,q1⟩
theorem nF(ha:PT X a tA)(hb:PW X (.BoolOp .Or (b::rest) pos) tB'):PW X (.BoolOp .Or (a::b::rest) pos) (tOr tA tB'):=by
 intro wh pins s σ H Q I h;refine isTrue_or (thn (ha pins s σ H _ I h) fun c s1 hPz=>?_);obtain⟨H1,I1,q1⟩:=hPz;cases c with
 |true=>exact⟨H1,I1,q1⟩
 |false=>exact hb wh pins s1 σ H1 Q I1 q1
theorem rF(ha:PT X a tA):PT X (.UnaryOp .Not a pos) (EK tA):=by intro pins s σ H Q I h;exact isTrue_not (ha pins s σ H (fun c H1=>Q (!c) H1) I h)
def DX(ta tb:TE):TE:=fun σ H Q=>ta σ H fun x H1=>∃c,x=.bl c/\if c=true then tb σ H1 Q else Q (.bl false) H1
def EJ(ta tb:TE):TE:=fun σ H Q=>ta σ H fun x H1=>∃c,x=.bl c/\if c=true then Q (.bl true) H1 else tb σ H1 Q
def DQ(ta:TE):TE:=fun σ H Q=>ta σ H fun x H1=>∃c,x=.bl c/\Q (.bl (!c)) H1
theorem mx{op}{t:TE}(h:PE X a t):PE X (.BoolOp op [a] pos) t:=fun pins s σ H Q I hw=>BoolOp_one (h pins s σ H Q I hw)
theorem rK(ha:PE X a ta)(hb:PE X (.BoolOp .And (b::rest) pos) tb):PE X (.BoolOp .And (a::b::rest) pos) (DX ta tb):=by
 intro pins s σ H Q I h;refine BoolOp_and (thn (ha pins s σ H _ I h) fun v s1 hPz=>?_);obtain⟨x,H1,I1,r1,q1⟩:=hPz;obtain⟨c,rfl,q1⟩:=q1;cases r1;refine wpAny_truthy_bool ?_;cases c with
 |true=>exact hb pins s1 σ H1 Q I1 q1
 |false=>exact⟨.bl false,H1,I1,rfl,q1⟩
theorem B5(ha:PE X a ta)(hb:PE X (.BoolOp .Or (b::rest) pos) tb):PE X (.BoolOp .Or (a::b::rest) pos) (EJ ta tb):=by
 intro pins s σ H Q I h;refine BoolOp_or (thn (ha pins s σ H _ I h) fun v s1 hPz=>?_);obtain⟨x,H1,I1,r1,q1⟩:=hPz;obtain⟨c,rfl,q1⟩:=q1;cases r1;refine wpAny_truthy_bool ?_;cases c with
 |false=>exact hb pins s1 σ H1 Q I1 q1
 |true=>exact⟨.bl true,H1,I1,rfl,q1⟩
theorem CG(ha:PE X a ta):PE X (.UnaryOp .Not a pos) (DQ ta):=by intro pins s σ H Q I h;refine UnaryOp_ (thn (ha pins s σ H _ I h) fun v s1 hPz=>?_);obtain⟨x,H1,I1,r1,q1⟩:=hPz;obtain⟨c,rfl,q1⟩:=q1;cases r1;exact not_of (wpAny_truthy_bool ⟨.bl (!c),H1,I1,rfl,q1⟩)
end
def SqL(K:Frag)(H:Hp)(a:Addr)(xs:List V):Prop:=
 Rd H a (.lst xs)\/
  ∃(o:Obj)(its:Array Value)(n:Nat),K.lookup a=some o/\o.cls=.type "list"/\o.dict=none/\o.data=.seq its n/\its.size<=sizeLine/\Vals xs its.toList
def SqT(K:Frag)(H:Hp)(a:Addr)(xs:List V):Prop:=
 Rd H a (.tup xs)\/
  ∃(o:Obj)(its:Array Value)(n:Nat),K.lookup a=some o/\o.cls=.type "tuple"/\o.data=.seq its n/\its.size<=sizeLine/\Vals xs its.toList
noncomputable def Fg:Value->Option V
 | .none=>some .non
 | .bool b=>some (.bl b)
 | .int i _=>some (.int i)
 | .str x _=>some (.str x)
 | .bytes b _=>some (.byt b)
 | .float b _=>some (.flt b)
 | .ref a=>some (.ref a)
 | .type n=>some (.ty n)
 |_=>none
theorem RelV.abs{x:V}{u:Value}(r:RelV x u):Fg u=some x:=by
 cases x with
 |non=>cases r;rfl
 |bl _=>cases r;rfl
 |int _=>obtain⟨t,rfl⟩:=r;rfl
 |str _=>obtain⟨t,rfl⟩:=r;rfl
 |byt _=>obtain⟨t,rfl⟩:=r;rfl
 |flt _=>obtain⟨t,rfl⟩:=r;rfl
 |ref _=>cases r;rfl
 |ty _=>cases r;rfl
theorem RelV.inj{x y:V}{u:Value}(r:RelV x u)(q:RelV y u):x=y:=F0 (r.abs.symm.trans q.abs)
theorem Vals.inj:∀{xs ys:List V}{us:List Value},Vals xs us->Vals ys us->xs=ys
 |_,_,_,.nil,.nil=>rfl
 |_,_,_,.cons r t,.cons r' t'=>by rw[r.inj r',Vals.inj t t']
section
variable{X:Cx}{pins:List (Addr×Obj)}{σ:St}{H:Hp}{s:Shared}{a:Addr}{xs ys:List V}
theorem SqL.of{K:Frag}(h:H a=some (.lst xs)):SqL K H a xs:=.inl (.inl h)
theorem SqT.of{K:Frag}(h:H a=some (.tup xs)):SqT K H a xs:=.inl (.inl h)
theorem Inv.list(I:Inv X pins σ H s)(h:SqL X.K H a xs):∃its:List Value,Vals xs its/\PlainL s.heap a its.toArray/\xs.length<=sizeLine:=by
 rcases h with h|⟨o,its,n,hk,hc,hd,hs,hz,r⟩
 ·obtain⟨z,its,n,r,e⟩:=h.ok I.hok;exact⟨its,r,⟨_,n,e,rfl,rfl,rfl⟩,z⟩
 ·refine⟨its.toList,r,⟨o,n,I.kIn a o hk,hc,hd,by simpa using hs⟩,?_⟩;have e:=r.length;simp only[G1]at e
  lia
theorem Inv.tuple(I:Inv X pins σ H s)(h:SqT X.K H a xs):∃its:List Value,Vals xs its/\IsTup s.heap a its.toArray/\xs.length<=sizeLine:=by
 rcases h with h|⟨o,its,n,hk,hc,hs,hz,r⟩
 ·obtain⟨z,its,r,p⟩:=h.ok I.hok;exact⟨its,r,p,z⟩
 ·refine⟨its.toList,r,⟨o,I.kIn a o hk,hc,n,by simpa using hs⟩,?_⟩;have e:=r.length;simp only[G1]at e;omega
theorem Inv.list_inj(I:Inv X pins σ H s)(h:SqL X.K H a xs)(h':SqL X.K H a ys):xs=ys:=by
 obtain⟨its,r,⟨o,n,e,_,_,d⟩,_⟩:=I.list h;obtain⟨its',r',⟨o',n',e',_,_,d'⟩,_⟩:=I.list h';rw[e]at e';cases e';rw[d]at d';injection d' with d1 _;have:its=its':=by simpa using congrArg Array.toList d1
 subst this;exact r.inj r'
theorem Inv.tuple_inj(I:Inv X pins σ H s)(h:SqT X.K H a xs)(h':SqT X.K H a ys):xs=ys:=by
 obtain⟨its,r,⟨o,e,_,n,d⟩,_⟩:=I.tuple h;obtain⟨its',r',⟨o',e',_,n',d'⟩,_⟩:=I.tuple h';rw[e]at e';cases e';rw[d]at d';injection d' with d1 _;have:its=its':=by simpa using congrArg Array.toList d1
 subst this;exact r.inj r'
end
noncomputable abbrev Cx.wish(X:Cx)(E:Value->Shared->Prop):Cx:={X with xe:=E}
noncomputable abbrev Cx.nox(X:Cx):Cx:=X.wish fun _ _=>False
theorem Cx.Ok.wish{X:Cx}(ok:X.Ok)(E:Value->Shared->Prop):(X.wish E).Ok:=
 ⟨ok.mod,ok.kind,ok.glob,ok.blt,ok.above,ok.inj,ok.has,ok.cab,ok.hd,ok.frames,ok.stk,ok.exf,ok.bs,ok.bsz,ok.noex,ok.exfs,ok.funs,ok.frf⟩
theorem Cx.Ok.unwish{X:Cx}{E:Value->Shared->Prop}(ok:(X.wish E).Ok):X.Ok:=
 ⟨ok.mod,ok.kind,ok.glob,ok.blt,ok.above,ok.inj,ok.has,ok.cab,ok.hd,ok.frames,ok.stk,ok.exf,ok.bs,ok.bsz,ok.noex,ok.exfs,ok.funs,ok.frf⟩
section
variable{X:Cx}{pins:List (Addr×Obj)}{σ:St}{H:Hp}{s:Shared}{E:Value->Shared->Prop}
theorem Inv.wish(I:Inv X pins σ H s)(E:Value->Shared->Prop):Inv (X.wish E) pins σ H s:=⟨I.ok.wish E,I.os,I.bare,I.base,I.loc,I.cell,I.free,I.freeC,I.pin,I.hok,I.len⟩
theorem Inv.unwish(I:Inv (X.wish E) pins σ H s):Inv X pins σ H s:=⟨I.ok.unwish,I.os,I.bare,I.base,I.loc,I.cell,I.free,I.freeC,I.pin,I.hok,I.len⟩
theorem SP.unwish{D:Ends}{f:Flow}{s':Shared}(h:SP (X.wish E) pins D f s'):SP X pins D f s':=by
 cases f with
 |next=>obtain⟨σ',H',I,q⟩:=h;exact⟨σ',H',I.unwish,q⟩
 |brk=>obtain⟨σ',H',I,q⟩:=h;exact⟨σ',H',I.unwish,q⟩
 |cont=>obtain⟨σ',H',I,q⟩:=h;exact⟨σ',H',I.unwish,q⟩
 |ret u=>obtain⟨v,σ',H',I,r,q⟩:=h;exact⟨v,σ',H',I.unwish,r,q⟩
theorem PSs.nox{st:List Stmt}{t:TS}(h:PSs X.nox st t):PSs X st t:=fun pins s σ H D I hw=>F8 (h pins s σ H D (I.wish _) hw) (fun _ _ q=>q.unwish) fun _ _ z=>False.elim z
end
section
variable{X:Cx}{st:Stmt}{rest:List Stmt}{t u:TS}{e:Expr}{te:TE}{pos:Pos}
def DR:TS:=fun D σ H=>D.nx σ H
def EG(t u:TS):TS:=fun D σ H=>t {D with nx:=u D} σ H
theorem aI:PSs X [] DR:=fun _ _ σ H _ I h=>wpAny_execs_nil ⟨σ,H,I,h⟩
theorem ai(h1:PS X st t)(h2:PSs X rest u):PSs X (st::rest) (EG t u):=by
 intro pins s σ H D I h;refine wpAny_execs_cons (thn (h1 pins s σ H {D with nx:=u D} I h) fun f s1 q=>?_);cases f with
 |next=>obtain⟨σ',H',I',q⟩:=q;exact h2 pins s1 σ' H' D I' q
 |ret v=>exact q
 |brk=>exact q
 |cont=>exact q
theorem aj(h1:PS X st t):PSs X [st] t:=by
 intro pins s σ H D I h;refine wpAny_execs_cons (thn (h1 pins s σ H D I h) fun f s1 q=>?_);cases f with
 |next=>exact wpAny_execs_nil q
 |ret v=>exact q
 |brk=>exact q
 |cont=>exact q
theorem Inv.quiet{pins:List (Addr×Obj)}{σ:St}{H:Hp}{s:Shared}(I:Inv X pins σ H s):interactive X.env=false:=by simp[interactive,I.ok.kind]
def DU(te:TE):TS:=fun D σ H=>te σ H fun _ H1=>D.nx σ H1
theorem dA(he:PE X e te)(hs:swapsWith e none pos.line X.env=pure false:=by rfl):PS X (.Expr e pos) (DU te):=by intro pins s σ H D I h;exact wpAny_Expr_any (thn (he pins s σ H _ I h) fun v s1 hPz=>L2.ep3 hPz fun x H1 I1 r1 q1=>⟨σ,H1,I1,q1⟩) I.quiet hs
def EI(te:TE):TS:=fun D σ H=>te σ H D.rt
theorem aE(he:PE X e te):PS X (.Return (some e) pos) (EI te):=by intro pins s σ H D I h;exact wpAny_Return_some (thn (he pins s σ H _ I h) fun v s1 hPz=>L2.ep3 hPz fun x H1 I1 r1 q1=>⟨x,σ,H1,I1,r1,q1⟩)
def EN(c:TT)(t u:TS):TS:=fun D σ H=>c σ H fun b H1=>if b=true then t D σ H1 else u D σ H1
theorem aV{c:Expr}{a b:List Stmt}{tc:TT}(hc:PT X c tc)(ha:PSs X a t)(hb:PSs X b u):PS X (.If c a b pos) (EN tc t u):=by
 intro pins s σ H D I h;refine wpAny_If (thn (hc pins s σ H _ I h) fun d s1 hPz=>?_);obtain⟨H1,I1,q1⟩:=hPz;cases d with
 |true=>exact ha pins s1 σ H1 D I1 q1
 |false=>exact hb pins s1 σ H1 D I1 q1
end
noncomputable abbrev TG:=V->St->Hp->(St->Hp->Prop)->Prop
noncomputable abbrev TGs:=List V->St->Hp->(St->Hp->Prop)->Prop
def PG(X:Cx)(target:Expr)(t:TG):Prop:=
 ∀(pins:List (Addr×Obj))(s:Shared)(σ:St)(H:Hp)(v:V)(u:Value)(Q:St->Hp->Prop),Inv X pins σ H s->RelV v u->t v σ H Q->
  wpAny (model X.prog X.w) X.A (assign target X.env u) (fun _ s'=>∃σ' H',Inv X pins σ' H' s'/\Q σ' H') X.xe s
def PGs(X:Cx)(ts:List Expr)(t:TGs):Prop:=
 ∀(pins:List (Addr×Obj))(s:Shared)(σ:St)(H:Hp)(vs:List V)(us:List Value)(Q:St->Hp->Prop),Inv X pins σ H s->Vals vs us->t vs σ H Q->
  wpAny (model X.prog X.w) X.A (assignInOrder ((assignEach ts X.env).map (·.2)) us) (fun _ s'=>∃σ' H',Inv X pins σ' H' s'/\Q σ' H') X.xe s
noncomputable abbrev Dz:=V->V->V->Hp->(Hp->Prop)->Prop
def EB(X:Cx)(t:Dz):Prop:=
 ∀(pins:List (Addr×Obj))(s:Shared)(σ:St)(H:Hp)(o i v:V)(ov iv u:Value)(Q:Hp->Prop),Inv X pins σ H s->RelV o ov->RelV i iv->RelV v u->t o i v H Q->
  wpAny (model X.prog X.w) X.A (setItem ov iv u) (fun _ s'=>∃H',Inv X pins σ H' s'/\Q H') X.xe s
section
variable{X:Cx}{pos:Pos}
def qM(i:Nat):TG:=fun v σ H Q=>Q (σ.set i (some v)) H
theorem aK{i:Nat}{x:Str}(hN:X.N.Nodup)(hi:X.N[i]?=some x)(hx:Loc X.env.scope x)(hf:X.fn x=true\/X.env.scope.names.lookup x=some .local:=by first|exact .inl rfl|exact .inr rfl|assumption):PG X (.Name x pos) (qM i):=by intro pins s σ H v u Q I r h;exact wpAny_assign_Name (om I hN hi hx r (fun s' I'=>⟨_,H,I',h⟩) hf)
def Ff:TGs:=fun vs σ H Q=>vs=[]/\Q σ H
def Es(t:TG)(u:TGs):TGs:=fun vs σ H Q=>∃v r,vs=v::r/\t v σ H fun σ' H'=>u r σ' H' Q
theorem nW:PGs X [] Ff:=by intro pins s σ H vs us Q I r h;obtain⟨e,h⟩:=h;subst e;cases r;exact assignInOrder_nil ⟨σ,H,I,h⟩
theorem fL{e:Expr}{es:List Expr}{t:TG}{u:TGs}(h1:PG X e t)(h2:PGs X es u)
  (hs:(assignEach (e::es) X.env).map (·.2)=assign e X.env::(assignEach es X.env).map (·.2):=by rfl):PGs X (e::es) (Es t u):=by
 intro pins s σ H vs us Q I r h;obtain⟨v,vr,e1,h⟩:=h;subst e1;cases r with
 |cons r rr=>rw[hs];refine assignInOrder_cons (thn (h1 pins s σ H _ _ _ I r h) fun _ s1 hPz=>?_);obtain⟨σ1,H1,I1,q1⟩:=hPz;exact h2 pins s1 σ1 H1 _ _ Q I1 rr q1
def Fd(K:Frag)(n:Nat)(t:TGs):TG:=fun v σ H Q=>∃a xs,v=.ref a/\SqT K H a xs/\xs.length=n/\t xs σ H Q
theorem rG{es:List Expr}{k:Nat}{t:TGs}{n:Nat}(hc:X.calm=true)(h:PGs X es t)
  (hn:(assignEach es X.env).length=n:=by rfl) (hst:(assignEach es X.env).findIdx? (·.1)=none:=by rfl):PG X (.Tuple es k pos) (Fd X.K n t):=by
 intro pins s σ H v u Q I r hw;obtain⟨a,xs,e1,hq,hl,hw⟩:=hw;subst e1;cases r;obtain⟨its,rv,ht,hz⟩:=I.tuple hq;refine assign_Tuple_tuple (I.ok.hd hc) ht (by simp[hn,<-hl,rv.length]) hst fun h' hx=>?_;have I1:Inv X pins σ H {s with heap:=h'}:=I.kept (t':=s.toks) fun b o e=>hx b o (F4 (FI e)) e;exact h pins _ σ H xs _ Q I1 (by simpa using rv) hw
def Fe(to ti:TE)(t:Dz):TG:=fun v σ H Q=>to σ H fun o H1=>ti σ H1 fun i H2=>t o i v H2 fun H3=>Q σ H3
theorem y8{o i:Expr}{to ti:TE}{t:Dz}(ho:PE X o to)(hi:PE X i ti)(hs:EB X t)
  (ha:∀v,assign (.Subscript o i pos) X.env v=(do
   let ov <-holding [v] (eval o X.env);let iv <-holding [v,ov] (eval i X.env)
   standAt pos
   holding [v,ov,iv] (setItem ov iv v)
   release [v,ov,iv] []):=by intro _;rfl):PG X (.Subscript o i pos) (Fe to ti t):=by
 intro pins s σ H v u Q I r h;rw[ha];refine Fl (Gx (thn (ho pins s σ H _ I h) fun ov s1 hPz=>?_));obtain⟨x,H1,I1,r1,q1⟩:=hPz;refine Fl (Gx (thn (hi pins s1 σ H1 _ I1 q1) fun iv s2 hPz=>?_));obtain⟨y,H2,I2,r2,q2⟩:=hPz;refine Fl (wpAny_standAt (Fl (Gx (thn (hs pins s2 σ H2 x y v ov iv u _ I2 r1 r2 r q2) fun _ s3 hPz=>?_))));obtain⟨H3,I3,q3⟩:=hPz;exact wpAny_release ⟨σ,H3,I3,q3⟩
def Cs(te:TE)(g:TG):TS:=fun D σ H=>te σ H fun x H1=>g x σ H1 D.nx
theorem u4{tg e:Expr}{te:TE}{g:TG}(he:PE X e te)(hg:PG X tg g)(hs:swapsWithSole [tg] e pos.line X.env=pure false:=by rfl)(hw:swappedStores [tg] e X.env=pure none:=by rfl)
  (h1:(assignEach [tg] X.env).map (·.2)=[assign tg X.env]:=by rfl):PS X (.Assign [tg] e pos) (Cs te g):=by
 intro pins s σ H D I h;refine wpAny_Assign_stores (thn (he pins s σ H _ I h) fun v s1 hPz=>?_) hs hw;obtain⟨x,H1,I1,r1,q1⟩:=hPz;rw[h1];exact thn (hg pins s1 σ H1 x v _ I1 r1 q1) fun _ s2 q=>q
theorem aw{i:Nat}{x:Str}{e:Expr}{te:TE}{pos':Pos}(hN:X.N.Nodup)(hi:X.N[i]?=some x)(hx:Loc X.env.scope x)(he:PE X e te)(hs:swapsWith e (some (.Name x pos')) pos.line X.env=pure false:=by rfl)(hf:X.fn x=true\/X.env.scope.names.lookup x=some .local:=by first|exact .inl rfl|exact .inr rfl|assumption):
  PS X (.Assign [.Name x pos'] e pos) (Cs te (qM i)):=by
 intro pins s σ H D I h;refine wpAny_Assign_Name (thn (he pins s σ H _ I h) fun v s1 hPz=>?_) hs;obtain⟨y,H1,I1,r1,q1⟩:=hPz;exact om I1 hN hi hx r1 (fun s2 I2=>⟨_,H1,I2,q1⟩) hf
def Ck(c:TT)(tb:TS):TS:=fun D σ H=>∃W:Nat->St->Hp->Prop,(∃m,W m σ H)/\∀m σ H,W m σ H->
 c σ H fun b H1=>if b=true then ∃N:St->Hp->Prop,(∀σ' H',N σ' H'->∃m',m'<m/\W m' σ' H')/\tb {D with nx:=N,ct:=N,bk:=D.nx} σ H1 else D.nx σ H1
theorem tQ{c:Expr}{body:List Stmt}{tc:TT}{tb:TS}(hp:PassesOwn (model X.prog X.w) X.A X.env X.xe)(hc:PT X c tc)(hb:PSs X body tb):PS X (.While c body [] pos) (Ck tc tb):=by
 intro pins s σ H D I h;obtain⟨W,⟨m0,w0⟩,turn⟩:=h;refine wpAny_While (codeAny_whileLoop (fun n s'=>∃σ' H',Inv X pins σ' H' s'/\W n σ' H') ?_ m0 ⟨σ,H,I,w0⟩);rintro n s1 ⟨σ1,H1,I1,w1⟩;refine wpAny_passesOwn hp (thn (hc pins s1 σ1 H1 _ I1 (turn n σ1 H1 w1)) fun b s2 hPz=>?_);obtain⟨H2,I2,q2⟩:=hPz;cases b with
 |true=>
  obtain⟨N,hN,q2⟩:=q2;rw[FH rfl];refine wpAny_passesOwn hp (thn (hb pins s2 σ1 H2 _ I2 q2) fun f s3 q3=>?_);cases f with
  |next=>obtain⟨σ3,H3,I3,n3⟩:=q3;obtain⟨m',hm,w3⟩:=hN σ3 H3 n3;exact⟨m',hm,σ3,H3,I3,w3⟩
  |cont=>obtain⟨σ3,H3,I3,n3⟩:=q3;obtain⟨m',hm,w3⟩:=hN σ3 H3 n3;exact⟨m',hm,σ3,H3,I3,w3⟩
  |brk=>exact q3
  |ret v=>exact q3
 |false=>rw[FA FP];exact wpAny_execs_nil ⟨σ1,H2,I2,q2⟩
end
structure It where
 go:Nat->Hp->Prop
 yld:Nat->Hp->V->Hp->Prop
 stop:Nat->Hp->Prop
def kF(X:Cx)(pins:List (Addr×Obj))(H:Hp)(b:Addr):Prop:=
 H b=none/\b≠X.env.locals/\b∉X.fs/\(b∈X.ex\/X.s₀.heap.objs.size<=b)/\(∀x c,X.env.cells.lookup x=some c->c≠b)/\∀p∈X.pn++pins,p.1≠b
theorem Inv.fpOk{X:Cx}{pins:List (Addr×Obj)}{σ:St}{H H':Hp}{s:Shared}{b:Addr}(I:Inv X pins σ H s)(hb:s.heap.objs.size<=b)(hn:H' b=none):kF X pins H' b:=by
 refine⟨hn,Nat.ne_of_gt (FE I.lt hb),I.nofs hb,.inr (FW I.sz hb),fun x c e z=>?_,fun p hp z=>?_⟩
 ·obtain⟨v,q⟩:=I.cell x c e;exact absurd (FE q.lt (by rw[z];exact hb)) (G3 _)
 ·exact absurd (FE (FI (I.pin p hp).1) (by rw[z];exact hb)) (G3 _)
structure Turn(P:Program)(w:World)(K:Frag)(tg:Expr)(J:It)(fp:List Addr)(it:Addr)(tn:Nat->Heap->Prop):Prop where
 mem:it∈fp
 obj:∀i h,tn i h->∀b∈fp,∃o,h.get? b=some o/\∀v,o.data≠ .cell v
 keep:∀i h h',tn i h->(∀b∈fp,∀o,h.get? b=some o->h'.get? b=some o)->tn i h'
 item:∀(X:Cx),X.prog=P->X.w=w->X.K=K->X.calm=true->∀(i:Nat)(pins:List (Addr×Obj))(s:Shared)(σ:St)(H:Hp)(E:Value->Shared->Prop),Inv X pins σ H s->(∀b∈fp,kF X pins H b)->tn i s.heap->J.go i H->
  wpAny (model P w) X.A (pyNext (.ref it)) (fun r s1=>∃u,r=some u/\
   wpAny (model P w) X.A (letOwnedTupleGo tg (.ref it) u) (fun _ s2=>∃x H',Inv X pins σ H' s2/\RelV x u/\J.yld i H x H'/\tn (i+1) s2.heap/\∀b∈fp,H' b=none) E s1) E s
 done:∀(X:Cx),X.prog=P->X.w=w->X.K=K->X.calm=true->∀(i:Nat)(pins:List (Addr×Obj))(s:Shared)(σ:St)(H:Hp)(E:Value->Shared->Prop),Inv X pins σ H s->(∀b∈fp,kF X pins H b)->tn i s.heap->J.stop i H->
  wpAny (model P w) X.A (pyNext (.ref it)) (fun r s1=>r=none/\Inv X pins σ H s1) E s
 self:∀(A:Around)(i:Nat)(s:Shared)(Q:Value->Shared->Prop)(E:Value->Shared->Prop),tn i s.heap->Q (.ref it) s->wpAny (model P w) A (pyIter (.ref it)) Q E s
noncomputable abbrev TI:=St->Hp->(It->Hp->Prop)->Prop
def PIE(X:Cx)(pins:List (Addr×Obj))(σ:St)(tg:Expr)(R:It->Hp->Prop)(itv:Value)(s2:Shared):Prop:=
 ∃(it:Addr)(fp:List Addr)(tn:Nat->Heap->Prop)(J:It)(H':Hp),itv=.ref it/\Inv X pins σ H' s2/\Turn X.prog X.w X.K tg J fp it tn/\tn 0 s2.heap/\(∀b∈fp,kF X pins H' b)/\R J H'
def PI(X:Cx)(tg iter:Expr)(wi:TI):Prop:=
 ∀(pins:List (Addr×Obj))(s:Shared)(σ:St)(H:Hp)(R:It->Hp->Prop),Inv X pins σ H s->wi σ H R->
  wpAny (model X.prog X.w) X.A (eval iter X.env) (fun v s1=>wpAny (model X.prog X.w) X.A (pyIter v) (PIE X pins σ tg R) X.xe s1) X.xe s
theorem wL {M : Model} {A : Around} {E : Value → Shared → Prop} {s : Shared} {tg : Expr} {it : Addr} {u : Value} {o : Obj} {n : String} {vs : Array Value} {Q : Unit → Shared → Prop} (ho : s.heap.get? it = some o) (hc : o.cls = .type n) (hd : o.data = .fields vs)
    (hn : ["enumerate", "zip", "dict_itemiterator", "dict_reverseitemiterator", "odict_iterator", "itertools.zip_longest", "itertools.pairwise"].contains n = false) (hQ : Q () s) : wpAny M A (letOwnedTupleGo tg (.ref it) u) Q E s := by
  unfold letOwnedTupleGo
  cases tg <;> first
    | exact wpAny_pure hQ
    | (cases u <;> first
        | exact wpAny_pure hQ
        | (refine wpAny_bind (wpAny_load ho ?_)
           rw [hc, hd]
           show wpAny M A (if (["enumerate", "zip", "dict_itemiterator", "dict_reverseitemiterator", "odict_iterator", "itertools.zip_longest", "itertools.pairwise"].contains n && vs[0]? == some (rawInt _)) = true then _ else _) Q E s
           rw [if_neg (by intro h; rw [hn, Bool.false_and] at h; cases h)]
           exact wpAny_pure hQ))
noncomputable def Itl(K:Frag)(a:Addr):It:=
 ⟨fun i H=>∃xs x,SqL K H a xs/\xs[i]?=some x,fun i H x H'=>H'=H/\∀xs,SqL K H a xs->xs[i]?=some x,fun i H=>∃xs,SqL K H a xs/\xs.length<=i⟩
noncomputable def Itt(K:Frag)(a:Addr):It:=
 ⟨fun i H=>∃xs x,SqT K H a xs/\xs[i]?=some x,fun i H x H'=>H'=H/\∀xs,SqT K H a xs->xs[i]?=some x,fun i H=>∃xs,SqT K H a xs/\xs.length<=i⟩
noncomputable def Itr(lo:Int)(n:Nat):It:=⟨fun i _=>i<n,fun i H x H'=>H'=H/\x=.int (lo+i),fun i _=>n<=i⟩
theorem xl{P:Program}{w:World}{K:Frag}{tg:Expr}(a it:Addr):Turn P w K tg (Itl K a) [it] it (fun i h=>h.IsListIter it a i) where
 mem:=by simp
 obj:=fun i h st b hb=>by
  have e:b=it:=by simpa using hb
  subst e;obtain⟨o,e,c,d⟩:=st;exact⟨o,e,fun v z=>by rw[d]at z;cases z⟩
 keep:=fun i h h' st k=>st.at fun o e=>k it (by simp) o e
 item:=by intro X hP hw hK hc i pins s σ H E I hf st hg;subst hP hw hK;obtain⟨xs,x,hq,hx⟩:=hg;obtain⟨its,rv,p,hz⟩:=I.list hq;obtain⟨u,hu,ru⟩:=rv.get hx;obtain⟨f0,f1,f2,f3,f4,f5⟩:=hf it (by simp);refine wpAny_pyNext_list_item st p.isList (x:=u) (by simpa using hu) fun h' st' sb=>?_;have I1:Inv X pins σ H {s with heap:=h'}:=I.turned (t':=s.toks) (fun b o hb e=>(sb.2 b hb).trans e) f0 f1 f3 f4 f5;obtain⟨o,e,c,d⟩:=id st';exact⟨u,rfl,wL (s:={s with heap:=h'}) e c d (by decide) ⟨x,H,I1,ru,⟨rfl,fun ys hy=>by rw[I.list_inj hy hq];exact hx⟩,st',fun b hb=>(hf b hb).1⟩⟩
 done:=by intro X hP hw hK hc i pins s σ H E I hf st hg;subst hP hw hK;obtain⟨xs,hq,hx⟩:=hg;obtain⟨its,rv,p,hz⟩:=I.list hq;obtain⟨f0,f1,f2,f3,f4,f5⟩:=hf it (by simp);have hl:=rv.length;exact wpAny_pyNext_list_end (I.ok.hd hc) st p.isList (by simp;lia) fun h' eb=>⟨rfl,I.turned (t':=s.toks) (fun b o hb e=>eb b o hb e) f0 f1 f3 f4 f5⟩
 self:=fun _ _ _ _ _ st h=>wpAny_pyIter_listiter st h
theorem uO{P:Program}{w:World}{K:Frag}{tg:Expr}(a it:Addr):Turn P w K tg (Itt K a) [it] it (fun i h=>h.IsTupleIter it a i) where
 mem:=by simp
 obj:=fun i h st b hb=>by
  have e:b=it:=by simpa using hb
  subst e;obtain⟨o,e,c,d⟩:=st;exact⟨o,e,fun v z=>by rw[d]at z;cases z⟩
 keep:=fun i h h' st k=>st.at fun o e=>k it (by simp) o e
 item:=by intro X hP hw hK hc i pins s σ H E I hf st hg;subst hP hw hK;obtain⟨xs,x,hq,hx⟩:=hg;obtain⟨its,rv,p,hz⟩:=I.tuple hq;obtain⟨u,hu,ru⟩:=rv.get hx;obtain⟨f0,f1,f2,f3,f4,f5⟩:=hf it (by simp);refine wpAny_pyNext_tuple_item st (show s.heap.IsTuple a its.toArray from p) (x:=u) (by simpa using hu) fun h' st' sb=>?_;have I1:Inv X pins σ H {s with heap:=h'}:=I.turned (t':=s.toks) (fun b o hb e=>(sb.2 b hb).trans e) f0 f1 f3 f4 f5;obtain⟨o,e,c,d⟩:=id st';exact⟨u,rfl,wL (s:={s with heap:=h'}) e c d (by decide) ⟨x,H,I1,ru,⟨rfl,fun ys hy=>by rw[I.tuple_inj hy hq];exact hx⟩,st',fun b hb=>(hf b hb).1⟩⟩
 done:=by intro X hP hw hK hc i pins s σ H E I hf st hg;subst hP hw hK;obtain⟨xs,hq,hx⟩:=hg;obtain⟨its,rv,p,hz⟩:=I.tuple hq;obtain⟨f0,f1,f2,f3,f4,f5⟩:=hf it (by simp);have hl:=rv.length;exact wpAny_pyNext_tuple_end (I.ok.hd hc) st (show s.heap.IsTuple a its.toArray from p) (by simp;omega) fun h' eb=>⟨rfl,I.turned (t':=s.toks) (fun b o hb e=>eb b o hb e) f0 f1 f3 f4 f5⟩
 self:=fun _ _ _ _ _ st h=>wpAny_pyIter_tupleiter st h
theorem uP{P:Program}{w:World}{K:Frag}{tg:Expr}(it:Addr)(lo:Int)(n:Nat):Turn P w K tg (Itr lo n) [it] it (fun i h=>IsRangeIter h it (lo+(i:Nat)*1) ((n:Int)-(i:Nat)) 1) where
 mem:=by simp
 obj:=fun i h st b hb=>by
  have e:b=it:=by simpa using hb
  subst e
  exact⟨_,st,fun v z=>by
   have z':Data.fields _=Data.cell v:=z
   cases z'⟩
 keep:=fun i h h' st k=>k it (by simp) _ st
 item:=by intro X hP hw hK hc i pins s σ H E I hf st hg;subst hP hw hK;obtain⟨f0,f1,f2,f3,f4,f5⟩:=hf it (by simp);have W:=Walks.range (prog:=X.prog) (w:=X.w) (I.ok.hd hc) it lo 1 n;refine W.item i s _ _ hg st fun v h' tk hv st' kk=>?_;obtain⟨t,rfl⟩:=hv;have I1:Inv X pins σ H {s with heap:=h',toks:=tk}:=I.turned (fun b o hb e=>kk b o (by simpa using hb) e) f0 f1 f3 f4 f5;refine⟨_,rfl,wL (s:={s with heap:=h',toks:=tk}) (n:="range_iterator") st' rfl rfl (by decide) ⟨.int (lo+i),H,I1,⟨t,?_⟩,⟨rfl,rfl⟩,st',fun b hb=>(hf b hb).1⟩⟩;rw[Int.mul_one]
 done:=by intro X hP hw hK hc i pins s σ H E I hf st hg;subst hP hw hK;obtain⟨f0,f1,f2,f3,f4,f5⟩:=hf it (by simp);exact wpAny_pyNext_range_end (I.ok.hd hc) st (by have:n<=i:=hg;lia) fun h' eb=>⟨rfl,I.turned (t':=s.toks) (fun b o hb e=>eb b o hb e) f0 f1 f3 f4 f5⟩
 self:=fun _ _ _ _ _ st h=>wpAny_pyIter_rangeiter st h
section
variable{X:Cx}{tg:Expr}
def B9(K:Frag)(tl:TE):TI:=fun σ H R=>tl σ H fun x H1=>∃a,x=.ref a/\(∃xs,SqL K H1 a xs)/\R (Itl K a) H1
def Eo(K:Frag)(tl:TE):TI:=fun σ H R=>tl σ H fun x H1=>∃a,x=.ref a/\(∃xs,SqT K H1 a xs)/\R (Itt K a) H1
theorem cX{l:Expr}{tl:TE}(hl:PE X l tl):PI X tg l (B9 X.K tl):=by
 intro pins s σ H R I h;refine thn (hl pins s σ H _ I h) fun v s1 hPz=>?_;obtain⟨x,H1,I1,r1,q1⟩:=hPz;obtain⟨a,e,⟨xs,hq⟩,q⟩:=q1;subst e;cases r1;obtain⟨its,rv,p,hz⟩:=I1.list hq;refine wpAny_pyIter_list p.isList ?_;refine⟨s1.heap.objs.size,[s1.heap.objs.size],_,_,H1,rfl,I1.kept (t':=s1.toks) fun b o e=>Fn _ e,xl a _,⟨_,FT _ rfl,rfl,rfl⟩,fun b hb=>?_,q⟩;have e:b=s1.heap.objs.size:=by simpa using hb
 subst e;exact I1.fpOk (Fv _) (I1.hok.fresh (Fv _))
theorem eO{l:Expr}{tl:TE}(hl:PE X l tl):PI X tg l (Eo X.K tl):=by
 intro pins s σ H R I h;refine thn (hl pins s σ H _ I h) fun v s1 hPz=>?_;obtain⟨x,H1,I1,r1,q1⟩:=hPz;obtain⟨a,e,⟨xs,hq⟩,q⟩:=q1;subst e;cases r1;obtain⟨its,rv,p,hz⟩:=I1.tuple hq;refine wpAny_pyIter_tuple (show s1.heap.IsTuple a its.toArray from p) ?_;refine⟨s1.heap.objs.size,[s1.heap.objs.size],_,_,H1,rfl,I1.kept (t':=s1.toks) fun b o e=>Fn _ e,uO a _,⟨_,FT _ rfl,rfl,rfl⟩,fun b hb=>?_,q⟩;have e:b=s1.heap.objs.size:=by simpa using hb
 subst e;exact I1.fpOk (Fv _) (I1.hok.fresh (Fv _))
theorem yU{pins:List (Addr×Obj)}{σ:St}{H:Hp}{s:Shared}{R:It->Hp->Prop}{E:Value->Shared->Prop}{lo hi:Int}{t u v:Tok}{tk:Nat}(I:Inv X pins σ H s)(h1: -(2^62)<=lo)(h2:lo<2^62)(h3: -(2^62)<=hi)(h4:hi<2^62)
  (q:R (Itr lo (hi-lo).toNat) H):wpAny (model X.prog X.w) X.A (pyIter (.ref s.heap.objs.size)) (PIE X pins σ tg R) E {s with heap:=s.heap.push {cls:=.type "range",data:=.fields #[.int lo t,.int hi u,.int 1 v]},toks:=tk}:=by
 refine wpAny_pyIter_range (IsRange.new ..) (small_one h1 h2 h3 h4) ?_;have I1:Inv X pins σ H {s with heap:=s.heap.push {cls:=.type "range",data:=.fields #[.int lo t,.int hi u,.int 1 v]},toks:=tk}:=I.kept fun b o e=>Fn _ e
 refine⟨(s.heap.push {cls:=.type "range",data:=.fields #[.int lo t,.int hi u,.int 1 v]}).objs.size,[(s.heap.push {cls:=.type "range",data:=.fields #[.int lo t,.int hi u,.int 1 v]}).objs.size],_,_,H,rfl,
  I1.kept (t':=tk) fun b o e=>Fn _ e,uP _ lo (hi-lo).toNat,?_,fun b hb=>?_,q⟩
 ·have e1:lo+((0:Nat):Int)*1=lo:=by simp
  have e2:(((hi-lo).toNat:Nat):Int)-((0:Nat):Int)=Builtin.Range.rangeSize lo hi 1:=by rw[rangeSize_one];split<;>lia
  show IsRangeIter _ _ (lo+((0:Nat):Int)*1) ((((hi-lo).toNat:Nat):Int)-((0:Nat):Int)) 1;rw[e1,e2];exact FT _ rfl
 ·have e:b=(s.heap.push {cls:=.type "range",data:=.fields #[.int lo t,.int hi u,.int 1 v]}).objs.size:=by simpa using hb
  subst e;exact I1.fpOk (Fv _) (I1.hok.fresh (Fv _))
def Ep(ta:TA):TI:=fun σ H R=>ta σ H fun vs H1=>∃j:Int,vs=[.int j]/\ -(2^62)<=j/\j<2^62/\R (Itr 0 j.toNat) H1
theorem bL{a:Expr}{ta:TA}{p pos:Pos}(hg:Gl X "range")(hm:X.mg "range"=none)(ha:PA X [a] ta)(hs:starEach [a] X.env=[(false,eval a X.env)]:=by rfl):PI X tg (.Call (.Name "range" p) [a] [] pos) (Ep ta):=by
 intro pins s σ H R I h;refine Call_ (mM I hg hm boot_range (PyProof.Rows.callWith_type1 (thn (ha pos pins s σ H _ I h) fun us s1 hPz=>?_) hs rfl));obtain⟨vs,H1,I1,r1,q1⟩:=hPz;obtain⟨j,e,q1,q2,q⟩:=q1;subst e;cases r1 with
 |cons r rr=>cases rr;obtain⟨t,rfl⟩:=r;exact call_range_1 (yU I1 (by lia) (by lia) q1 q2 (by simpa using q))
def EO(wi:TI)(g:TG)(tb:TS):TS:=fun D σ H=>wi σ H fun J H1=>∃W:Nat->Nat->St->Hp->Prop,(∃m,W 0 m σ H1)/\∀i m σ H,W i m σ H->
 (J.stop i H/\D.nx σ H)\/(J.go i H/\∃N:St->Hp->Prop,(∀σ' H',N σ' H'->∃m',m'<m/\W (i+1) m' σ' H')/\∀x H',J.yld i H x H'->g x σ H' fun σ2 H2=>tb {D with nx:=N,ct:=N,bk:=D.nx} σ2 H2)
noncomputable def jh(fp:List Addr)(h:Heap):List (Addr×Obj):=fp.filterMap fun b=>(h.get? b).map fun o=>(b,o)
theorem gA{fp:List Addr}{h:Heap}{b:Addr}{o:Obj}(hb:b∈fp)(e:h.get? b=some o):(b,o)∈jh fp h:=List.mem_filterMap.mpr ⟨b,hb,by rw[e];rfl⟩
theorem xP{fp:List Addr}{h:Heap}{p:Addr×Obj}(hp:p∈jh fp h):p.1∈fp/\h.get? p.1=some p.2:=by
 obtain⟨b,hb,e⟩:=List.mem_filterMap.mp hp;cases q:h.get? b with
 |none=>rw[q]at e;cases e
 |some o=>rw[q]at e;have e':(b,o)=p:=F0 e;subst e';exact⟨hb,q⟩
theorem Inv.pinned{pins:List (Addr×Obj)}{σ:St}{H:Hp}{s:Shared}{fp:List Addr}(I:Inv X pins σ H s)(hf:∀b∈fp,kF X pins H b)(ho:∀b∈fp,∃o,s.heap.get? b=some o/\∀v,o.data≠ .cell v):Inv X (pins++jh fp s.heap) σ H s:=
 I.pins_of fun p hp=>(FC.mp hp).elim (fun z=>I.pin p (FX _ z)) fun z=>by obtain⟨hb,e⟩:=xP z;obtain⟨f0,f1,f2,_⟩:=hf p.1 hb;obtain⟨o,e',d⟩:=ho p.1 hb;rw[e]at e';cases e';exact⟨e,f0,f1,f2,d⟩
theorem Inv.unpinned{pins pl:List (Addr×Obj)}{σ:St}{H:Hp}{s:Shared}(I:Inv X (pins++pl) σ H s):Inv X pins σ H s:=I.pins_of fun p hp=>I.pin p (FX _ (FR _ hp))
theorem cu{iter:Expr}{body:List Stmt}{wi:TI}{g:TG}{tb:TS}{pos:Pos}(hp:PassesOwn (model X.prog X.w) X.A X.env X.xe)(hc:X.calm=true)(hi:PI X tg iter wi)(hg:PG X tg g)(hb:PSs X body tb)
  (hs:∀x,foldedSetIterable iter X.env x=pure x:=by intro _;rfl):PS X (.For tg iter body [] pos) (EO wi g tb):=by
 intro pins s σ H D I h;refine wpAny_For (thn (hi pins s σ H _ I h) fun v s1 h1=>thn h1 fun itv s2 h2=>?_) hs;obtain⟨it,fp,tn,J,H2,e,I2,T,st2,f2,W,⟨m0,w0⟩,turn⟩:=h2;subst e;have stat:∀{H':Hp},(∀b∈fp,H' b=none)->∀b∈fp,kF X pins H' b:=fun hn b hb=>⟨hn b hb,(f2 b hb).2⟩;refine codeAny_forLoop_any (fun n s'=>∃i σ' H',Inv X pins σ' H' s'/\tn i s'.heap/\(∀b∈fp,H' b=none)/\W i n σ' H') ?_ m0 ⟨0,σ,H2,I2,st2,fun b hb=>(f2 b hb).1,w0⟩;rintro n s3 ⟨i,σ3,H3,I3,st3,fr3,w3⟩;rcases turn i n σ3 H3 w3 with⟨stop,qn⟩|⟨go,N,hN,step⟩
 ·refine wpAny_passesOwn hp (thn (T.done X rfl rfl rfl hc i pins s3 σ3 H3 X.xe I3 (stat fr3) st3 stop) fun r s4 ⟨hr,I4⟩=>?_);subst hr;exact wpAny_execs_nil ⟨σ3,H3,I4,qn⟩
 ·refine wpAny_passesOwn hp (thn (T.item X rfl rfl rfl hc i pins s3 σ3 H3 X.xe I3 (stat fr3) st3 go) fun r s4 hPz=>?_);obtain⟨u,hr,h4⟩:=hPz;subst hr;refine wpAny_passesOwn hp (thn h4 fun _ s5 hPz=>?_);obtain⟨x,H5,I5,r5,y5,st5,fr5⟩:=hPz;have I5':=I5.pinned (stat fr5) (T.obj _ _ st5);refine wpAny_passesOwn hp (thn (hg _ s5 σ3 H5 x u _ I5' r5 (step x H5 y5)) fun _ s6 hPz=>?_);obtain⟨σ6,H6,I6,q6⟩:=hPz;refine wpAny_passesOwn hp (thn (hb _ s6 σ6 H6 _ I6 q6) fun f s7 q7=>?_);have again:∀{σ7:St}{H7:Hp},Inv X (pins++jh fp s5.heap) σ7 H7 s7->N σ7 H7->∃m,m<n/\∃i σ' H',Inv X pins σ' H' s7/\tn i s7.heap/\(∀b∈fp,H' b=none)/\W i m σ' H':=fun {σ7 H7} I7 n7=>by
   obtain⟨m',hm,w7⟩:=hN σ7 H7 n7;refine⟨m',hm,i+1,σ7,H7,I7.unpinned,T.keep _ _ _ st5 fun b hb o e=>(I7.pin (b,o) (FX _ (FX _ (gA hb e)))).1,fun b hb=>?_,w7⟩;obtain⟨o,e,d⟩:=T.obj _ _ st5 b hb;exact(I7.pin (b,o) (FX _ (FX _ (gA hb e)))).2.1
  cases f with
  |next=>obtain⟨σ7,H7,I7,n7⟩:=q7;exact again I7 n7
  |cont=>obtain⟨σ7,H7,I7,n7⟩:=q7;exact again I7 n7
  |brk=>obtain⟨σ7,H7,I7,q7⟩:=q7;exact⟨σ7,H7,I7.unpinned,q7⟩
  |ret v=>obtain⟨x7,σ7,H7,I7,r7,q7⟩:=q7;exact⟨x7,σ7,H7,I7.unpinned,r7,q7⟩
end
theorem d9{K:Frag}{a:Addr}{xs:List V}{g:TG}{tb:TS}{D:Ends}{σ:St}{H:Hp}(Pv:Nat->St->Hp->Prop)(h0:Pv 0 σ H)(hl:∀i σ H,i<=xs.length->Pv i σ H->SqL K H a xs)
  (hs:∀i x σ H,xs[i]?=some x->Pv i σ H->g x σ H fun σ2 H2=>tb {D with nx:=Pv (i+1),ct:=Pv (i+1),bk:=D.nx} σ2 H2) (hd:∀σ H,Pv xs.length σ H->D.nx σ H):
  ∃W:Nat->Nat->St->Hp->Prop,(∃m,W 0 m σ H)/\∀i m σ H,W i m σ H->
   ((Itl K a).stop i H/\D.nx σ H)\/((Itl K a).go i H/\∃N:St->Hp->Prop,(∀σ' H',N σ' H'->∃m',m'<m/\W (i+1) m' σ' H')/\∀x H',(Itl K a).yld i H x H'->g x σ H' fun σ2 H2=>tb {D with nx:=N,ct:=N,bk:=D.nx} σ2 H2):=by
 refine⟨fun i m σ H=>m=xs.length-i/\i<=xs.length/\Pv i σ H,⟨xs.length,by simp,F1 _,h0⟩,?_⟩;rintro i m σ H ⟨rfl,hi,p⟩;have q:=hl i σ H hi p;by_cases hlt:i<xs.length
 ·refine .inr ⟨⟨xs,xs[i],q,by simp[hlt]⟩,Pv (i+1),fun σ' H' p'=>⟨xs.length-(i+1),by lia,rfl,hlt,p'⟩,fun x H' y=>?_⟩;obtain⟨e,y⟩:=y;subst e;exact hs i x σ _ (y xs q) p
 ·have e:i=xs.length:=by lia
  subst e;exact .inl ⟨⟨xs,q,Fv _⟩,hd σ H p⟩
theorem gW{K:Frag}{a:Addr}{xs:List V}{g:TG}{tb:TS}{D:Ends}{σ:St}{H:Hp}(Pv:Nat->St->Hp->Prop)(h0:Pv 0 σ H)(hl:∀i σ H,i<=xs.length->Pv i σ H->SqT K H a xs)
  (hs:∀i x σ H,xs[i]?=some x->Pv i σ H->g x σ H fun σ2 H2=>tb {D with nx:=Pv (i+1),ct:=Pv (i+1),bk:=D.nx} σ2 H2) (hd:∀σ H,Pv xs.length σ H->D.nx σ H):
  ∃W:Nat->Nat->St->Hp->Prop,(∃m,W 0 m σ H)/\∀i m σ H,W i m σ H->
   ((Itt K a).stop i H/\D.nx σ H)\/((Itt K a).go i H/\∃N:St->Hp->Prop,(∀σ' H',N σ' H'->∃m',m'<m/\W (i+1) m' σ' H')/\∀x H',(Itt K a).yld i H x H'->g x σ H' fun σ2 H2=>tb {D with nx:=N,ct:=N,bk:=D.nx} σ2 H2):=by
 refine⟨fun i m σ H=>m=xs.length-i/\i<=xs.length/\Pv i σ H,⟨xs.length,by simp,F1 _,h0⟩,?_⟩;rintro i m σ H ⟨rfl,hi,p⟩;have q:=hl i σ H hi p;by_cases hlt:i<xs.length
 ·refine .inr ⟨⟨xs,xs[i],q,by simp[hlt]⟩,Pv (i+1),fun σ' H' p'=>⟨xs.length-(i+1),by omega,rfl,hlt,p'⟩,fun x H' y=>?_⟩;obtain⟨e,y⟩:=y;subst e;exact hs i x σ _ (y xs q) p
 ·have e:i=xs.length:=by omega
  subst e;exact .inl ⟨⟨xs,q,Fv _⟩,hd σ H p⟩
theorem gb{lo:Int}{n:Nat}{g:TG}{tb:TS}{D:Ends}{σ:St}{H:Hp}(Pv:Nat->St->Hp->Prop)(h0:Pv 0 σ H)
  (hs:∀i σ H,i<n->Pv i σ H->g (.int (lo+i)) σ H fun σ2 H2=>tb {D with nx:=Pv (i+1),ct:=Pv (i+1),bk:=D.nx} σ2 H2) (hd:∀σ H,Pv n σ H->D.nx σ H):
  ∃W:Nat->Nat->St->Hp->Prop,(∃m,W 0 m σ H)/\∀i m σ H,W i m σ H->
   ((Itr lo n).stop i H/\D.nx σ H)\/((Itr lo n).go i H/\∃N:St->Hp->Prop,(∀σ' H',N σ' H'->∃m',m'<m/\W (i+1) m' σ' H')/\∀x H',(Itr lo n).yld i H x H'->g x σ H' fun σ2 H2=>tb {D with nx:=N,ct:=N,bk:=D.nx} σ2 H2):=by
 refine⟨fun i m σ H=>m=n-i/\i<=n/\Pv i σ H,⟨n,by simp,F1 _,h0⟩,?_⟩;rintro i m σ H ⟨rfl,hi,p⟩;by_cases hlt:i<n
 ·refine .inr ⟨hlt,Pv (i+1),fun σ' H' p'=>⟨n-(i+1),by lia,rfl,hlt,p'⟩,fun x H' y=>?_⟩;obtain⟨e,y⟩:=y;subst e y;exact hs i σ _ hlt p
 ·have e:i=n:=by lia
  subst e;exact .inl ⟨Fv _,hd σ H p⟩
noncomputable abbrev R2:=V->V->Hp->VK->Prop
def OpR(X:Cx)(f:Value->Value->Sem Value)(r:R2):Prop:=
 ∀(pins:List (Addr×Obj))(s:Shared)(σ:St)(H:Hp)(x y:V)(v u:Value)(Q:VK),Inv X pins σ H s->RelV x v->RelV y u->r x y H Q->
  wpAny (model X.prog X.w) X.A (f v u) (EP X pins σ Q) X.xe s
def UnR(X:Cx)(f:Value->Sem Value)(r:V->Hp->VK->Prop):Prop:=
 ∀(pins:List (Addr×Obj))(s:Shared)(σ:St)(H:Hp)(x:V)(v:Value)(Q:VK),Inv X pins σ H s->RelV x v->r x H Q->
  wpAny (model X.prog X.w) X.A (f v) (EP X pins σ Q) X.xe s
def fh(X:Cx)(f:Value)(r:List V->Hp->VK->Prop):Prop:=
 ∀(pins:List (Addr×Obj))(s:Shared)(σ:St)(H:Hp)(xs:List V)(us:List Value)(Q:VK),Inv X pins σ H s->Vals xs us->r xs H Q->
  wpAny (model X.prog X.w) X.A (call f us) (EP X pins σ Q) X.xe s
def tOp(r:R2)(ta tb:TE):TE:=fun σ H Q=>ta σ H fun x H1=>tb σ H1 fun y H2=>r x y H2 Q
def tUn(r:V->Hp->VK->Prop)(ta:TE):TE:=fun σ H Q=>ta σ H fun x H1=>r x H1 Q
noncomputable def rI(C:Int->Int->Prop)(g:Int->Int->V):R2:=fun x y H Q=>∃i j,x=.int i/\y=.int j/\C i j/\Q (g i j) H
noncomputable def rI0(g:Int->Int->V):R2:=fun x y H Q=>∃i j,x=.int i/\y=.int j/\Q (g i j) H
def rU(g:Int->V):V->Hp->VK->Prop:=fun x H Q=>∃i,x=.int i/\Q (g i) H
section
variable{X:Cx}{a b c:Expr}{ta tb tc:TE}{pos:Pos}
theorem Dx(ha:PE X a ta)(hb:PE X b tb){pins:List (Addr×Obj)}{s:Shared}{σ:St}{H:Hp}{R:V->V->Hp->Prop}(I:Inv X pins σ H s)
  (h:ta σ H fun x H1=>tb σ H1 fun y H2=>R x y H2) {Q:Value->Shared->Prop} {f:Value->Value->Sem Value}
  (hf:∀v u s2 x y H2,Inv X pins σ H2 s2->RelV x v->RelV y u->R x y H2->wpAny (model X.prog X.w) X.A (f v u) Q X.xe s2):
  wpAny (model X.prog X.w) X.A (eval a X.env) (fun v s₁=>wpAny (model X.prog X.w) X.A (eval b X.env) (fun u s₂=>wpAny (model X.prog X.w) X.A (f v u) Q X.xe s₂) X.xe s₁) X.xe s:=by
 refine thn (ha pins s σ H _ I h) fun v s1 hPz=>?_;obtain⟨x,H1,I1,r1,q1⟩:=hPz;refine thn (hb pins s1 σ H1 _ I1 q1) fun u s2 hPz=>?_;obtain⟨y,H2,I2,r2,q2⟩:=hPz;exact hf v u s2 x y H2 I2 r1 r2 q2
theorem aq{op:Operator}{r:R2}(ho:OpR X (binaryOp op) r)(ha:PE X a ta)(hb:PE X b tb):PE X (.BinOp a op b pos) (tOp r ta tb):=by intro pins s σ H Q I h;exact wpAny_BinOp (Dx ha hb I h fun v u s2 x y H2 I2 rx ry q=>ho pins s2 σ H2 x y v u Q I2 rx ry q)
theorem Ee{op:UnaryOp}{r:V->Hp->VK->Prop}(ho:UnR X (unaryOp op) r)(ha:PE X a ta):PE X (.UnaryOp op a pos) (tUn r ta):=by intro pins s σ H Q I h;exact UnaryOp_ (thn (ha pins s σ H _ I h) fun v s1 hPz=>L2.ep3 hPz fun x H1 I1 r1 q1=>ho pins s1 σ H1 x v Q I1 r1 q1)
theorem opI{f:Value->Value->Sem Value}{C:Int->Int->Prop}{g:Int->Int->Int}
  (rule:∀(i j:Int)(t u:Tok)(s:Shared)(Q:Value->Shared->Prop)(E:Value->Shared->Prop),C i j->Q (.int (g i j) s.toks) {s with toks:=s.toks+1}->wpAny (model X.prog X.w) X.A (f (.int i t) (.int j u)) Q E s):
  OpR X f (rI C fun i j=>.int (g i j)):=by
 intro pins s σ H x y v u Q I rx ry h;obtain⟨i,j,rfl,rfl,hc,q⟩:=h;obtain⟨t,rfl⟩:=rx;obtain⟨t',rfl⟩:=ry;exact rule i j t t' s _ _ hc ⟨.int (g i j),H,I.tok _,⟨_,rfl⟩,q⟩
theorem zf{f:Value->Value->Sem Value}{g:Int->Int->Int}
  (rule:∀(i j:Int)(t u:Tok)(s:Shared)(Q:Value->Shared->Prop)(E:Value->Shared->Prop),Q (.int (g i j) s.toks) {s with toks:=s.toks+1}->wpAny (model X.prog X.w) X.A (f (.int i t) (.int j u)) Q E s):
  OpR X f (rI0 fun i j=>.int (g i j)):=by
 intro pins s σ H x y v u Q I rx ry h;obtain⟨i,j,rfl,rfl,q⟩:=h;obtain⟨t,rfl⟩:=rx;obtain⟨t',rfl⟩:=ry;exact rule i j t t' s _ _ ⟨.int (g i j),H,I.tok _,⟨_,rfl⟩,q⟩
theorem CL{f:Value->Value->Sem Value}{g:Int->Int->Bool}
  (rule:∀(i j:Int)(t u:Tok)(s:Shared)(Q:Value->Shared->Prop)(E:Value->Shared->Prop),Q (.bool (g i j)) s->wpAny (model X.prog X.w) X.A (f (.int i t) (.int j u)) Q E s):
  OpR X f (rI0 fun i j=>.bl (g i j)):=by
 intro pins s σ H x y v u Q I rx ry h;obtain⟨i,j,rfl,rfl,q⟩:=h;obtain⟨t,rfl⟩:=rx;obtain⟨t',rfl⟩:=ry;exact rule i j t t' s _ _ ⟨.bl (g i j),H,I,rfl,q⟩
def Fj(i j:Int):Prop:=0<j/\j<1073741824
def ED(i j:Int):Prop:=0<=j/\j<=1000000/\i.natAbs<2^64
def DE(i j:Int):Prop:=(-(2^64)<i/\i<2^64)\/(-(2^64)<j/\j<2^64)
theorem DE.ok{i j:Int}(h:DE i j):IntMulOk i j:=by
 rcases h with⟨h1,h2⟩|⟨h1,h2⟩
 ·exact .of_left (intBits_le_64 h1 h2)
 ·exact .of_right (intBits_le_64 h1 h2)
theorem two_pow_nn(k:Nat):(0:Int)<=2^k:=by rw[two_pow_cast];exact Int.natCast_nonneg _
theorem bg:OpR X (binaryOp .Add) (rI0 fun i j=>.int (i+j)):=zf fun _ _ _ _ _ _ _ q=>add_int q
theorem dM:OpR X (binaryOp .Sub) (rI0 fun i j=>.int (i-j)):=zf fun _ _ _ _ _ _ _ q=>sub_int q
theorem bZ:OpR X (binaryOp .Mult) (rI DE fun i j=>.int (i*j)):=opI fun _ _ _ _ _ _ _ hc q=>mul_int q hc.ok
theorem b6:OpR X (binaryOp .FloorDiv) (rI Fj fun i j=>.int (i / j)):=opI fun i j _ _ _ _ _ hc q=>by have h1:(0:Int)<j:=hc.1;have h2:j<1073741824:=hc.2;exact floordiv_int (by lia) (by rw[Int.fdiv_eq_ediv_of_nonneg i (by lia)];exact q) (.inl (PyProof.noPylong_small (by omega)))
theorem bh:OpR X (binaryOp .Mod) (rI (fun _ j=>0<j) fun i j=>.int (i % j)):=opI fun i j _ _ _ _ _ hc q=>by have h1:(0:Int)<j:=hc;exact mod_int' (by lia) (by rw[Int.fmod_eq_emod_of_nonneg i (by lia)];exact q)
theorem Bb:OpR X (binaryOp .Mod) (rI (fun _ j=>j≠0) fun i j=>.int (i.fmod j)):=opI fun _ _ _ _ _ _ _ hc q=>mod_int' hc q
theorem j7:OpR X (binaryOp .Pow) (rI ED fun i j=>.int (i^j.toNat)):=opI fun _ _ _ _ _ _ _ hc q=>pow_int_small hc.1 hc.2.1 hc.2.2 q
theorem gy:OpR X (binaryOp .LShift) (rI ED fun i j=>.int (i*2^j.toNat)):=opI fun _ _ _ _ _ _ _ hc q=>lshift_int_small hc.1 hc.2.1 hc.2.2 q
theorem CJ:OpR X (binaryOp .RShift) (rI (fun _ j=>0<=j) fun i j=>.int (i / 2^j.toNat)):=opI fun i j _ _ _ _ _ hc q=>rshift_int hc (by rw[Int.fdiv_eq_ediv_of_nonneg i (two_pow_nn _)];exact q)
theorem vc:OpR X (binaryOp .BitAnd) (rI0 fun i j=>.int (Builtin.bitAnd i j)):=zf fun _ _ _ _ _ _ _ q=>and_int q
theorem B6:OpR X (binaryOp .BitOr) (rI0 fun i j=>.int (Builtin.bitOr i j)):=zf fun _ _ _ _ _ _ _ q=>or_int q
theorem CI:OpR X (binaryOp .BitXor) (rI0 fun i j=>.int (Builtin.bitXor i j)):=zf fun _ _ _ _ _ _ _ q=>xor_int q
theorem unI{f:Value->Sem Value}{g:Int->Int}
  (rule:∀(i:Int)(t:Tok)(s:Shared)(Q:Value->Shared->Prop)(E:Value->Shared->Prop),Q (.int (g i) s.toks) {s with toks:=s.toks+1}->wpAny (model X.prog X.w) X.A (f (.int i t)) Q E s):
  UnR X f (rU fun i=>.int (g i)):=by
 intro pins s σ H x v Q I rx h;obtain⟨i,rfl,q⟩:=h;obtain⟨t,rfl⟩:=rx;exact rule i t s _ _ ⟨.int (g i),H,I.tok _,⟨_,rfl⟩,q⟩
theorem Ci:UnR X (unaryOp .USub) (rU fun i=>.int (-i)):=unI fun _ _ _ _ _ q=>neg_int q
end
noncomputable def DZ:V->V->Bool
 | .non,.non=>true| .non,.int _=>true| .int _,.non=>true| .non,.bl _=>true| .bl _,.non=>true| .non,.str _=>true| .str _,.non=>true
 | .int _,.int _=>true| .bl _,.bl _=>true| .str _,.str _=>true| .byt _,.byt _=>true
 | .int _,.str _=>true| .str _,.int _=>true| .bl _,.str _=>true| .str _,.bl _=>true
 |_,_=>false
noncomputable def rEq:R2:=fun x y H Q=>DZ x y=true/\Q (.bl (decide (x=y))) H
noncomputable def rNe:R2:=fun x y H Q=>DZ x y=true/\Q (.bl (!decide (x=y))) H
theorem w4{i j:Int}:decide (V.int i=V.int j)=(i==j):=by rw[Bool.eq_iff_iff];simp
theorem zX{i j:Bool}:decide (V.bl i=V.bl j)=(i==j):=by rw[Bool.eq_iff_iff];simp
theorem wZ{i j:Str}:decide (V.str i=V.str j)=(i==j):=by rw[Bool.eq_iff_iff];simp
theorem w6{i j:Array UInt8}:decide (V.byt i=V.byt j)=(i.toList==j.toList):=by rw[Bool.eq_iff_iff];cases i;cases j;simp
section
variable{X:Cx}{a b c:Expr}{ta tb tc:TE}{pos:Pos}
theorem bt{pins:List (Addr×Obj)}{σ:St}{H:Hp}{s:Shared}{Q:VK}{k k':Bool}(I:Inv X pins σ H s)(q:Q (.bl k) H)(e:k=k'):EP X pins σ Q (.bool k') s:=by subst e;exact⟨.bl k,H,I,rfl,q⟩
theorem cN:OpR X (compareOp .Eq) rEq:=by
 intro pins s σ H x y v u Q I rx ry h;obtain⟨hs,q⟩:=h;cases x with
 |non=>
  cases rx;cases y with
  |non=>cases ry;exact PySem.EqNone.eq_none_none (bt I q (by simp))
  |bl j=>cases ry;exact PySem.EqNone.eq_none_bool (bt I q (by simp))
  |int j=>obtain⟨t',rfl⟩:=ry;exact PySem.EqNone.eq_none_int (bt I q (by simp))
  |str j=>obtain⟨t',rfl⟩:=ry;exact PySem.EqNone.eq_none_str (bt I q (by simp))
  |_=>exact absurd (show false=true from hs) FP
 |bl i=>
  cases rx;cases y with
  |non=>cases ry;exact PySem.EqNone.eq_bool_none (bt I q (by simp))
  |bl j=>cases ry;exact eq_bool (bt I q zX)
  |str j=>obtain⟨t',rfl⟩:=ry;exact PySem.EqMixed.eq_bool_str (bt I q (by simp))
  |_=>exact absurd (show false=true from hs) FP
 |int i=>
  obtain⟨t,rfl⟩:=rx;cases y with
  |non=>cases ry;exact PySem.EqNone.eq_int_none (bt I q (by simp))
  |int j=>obtain⟨t',rfl⟩:=ry;exact eq_int (bt I q w4)
  |str j=>obtain⟨t',rfl⟩:=ry;exact PySem.EqMixed.eq_int_str (bt I q (by simp))
  |_=>exact absurd (show false=true from hs) FP
 |str i=>
  obtain⟨t,rfl⟩:=rx;cases y with
  |non=>cases ry;exact PySem.EqNone.eq_str_none (bt I q (by simp))
  |bl j=>cases ry;exact PySem.EqMixed.eq_str_bool (bt I q (by simp))
  |int j=>obtain⟨t',rfl⟩:=ry;exact PySem.EqMixed.eq_str_int (bt I q (by simp))
  |str j=>obtain⟨t',rfl⟩:=ry;exact eq_str (bt I q wZ)
  |_=>exact absurd (show false=true from hs) FP
 |byt i=>
  obtain⟨t,rfl⟩:=rx;cases y with
  |byt j=>obtain⟨t',rfl⟩:=ry;exact PySem.W.eq_bytes (bt I q w6)
  |_=>exact absurd (show false=true from hs) FP
 |_=>cases y<;>exact absurd (show false=true from hs) FP
theorem qE:OpR X (compareOp .NotEq) rNe:=by
 intro pins s σ H x y v u Q I rx ry h;obtain⟨hs,q⟩:=h;cases x with
 |non=>
  cases rx;cases y with
  |non=>cases ry;exact PySem.EqNone.ne_none_none (bt I q (by simp))
  |bl j=>cases ry;exact PySem.EqNone.ne_none_bool (bt I q (by simp))
  |int j=>obtain⟨t',rfl⟩:=ry;exact PySem.EqNone.ne_none_int (bt I q (by simp))
  |str j=>obtain⟨t',rfl⟩:=ry;exact PySem.EqNone.ne_none_str (bt I q (by simp))
  |_=>exact absurd (show false=true from hs) FP
 |bl i=>
  cases rx;cases y with
  |non=>cases ry;exact PySem.EqNone.ne_bool_none (bt I q (by simp))
  |bl j=>cases ry;exact ne_bool (bt I q (congrArg not zX))
  |str j=>obtain⟨t',rfl⟩:=ry;exact PySem.EqMixed.ne_bool_str (bt I q (by simp))
  |_=>exact absurd (show false=true from hs) FP
 |int i=>
  obtain⟨t,rfl⟩:=rx;cases y with
  |non=>cases ry;exact PySem.EqNone.ne_int_none (bt I q (by simp))
  |int j=>obtain⟨t',rfl⟩:=ry;exact ne_int (bt I q (congrArg not w4))
  |str j=>obtain⟨t',rfl⟩:=ry;exact PySem.EqMixed.ne_int_str (bt I q (by simp))
  |_=>exact absurd (show false=true from hs) FP
 |str i=>
  obtain⟨t,rfl⟩:=rx;cases y with
  |non=>cases ry;exact PySem.EqNone.ne_str_none (bt I q (by simp))
  |bl j=>cases ry;exact PySem.EqMixed.ne_str_bool (bt I q (by simp))
  |int j=>obtain⟨t',rfl⟩:=ry;exact PySem.EqMixed.ne_str_int (bt I q (by simp))
  |str j=>obtain⟨t',rfl⟩:=ry;exact ne_str (bt I q (congrArg not wZ))
  |_=>exact absurd (show false=true from hs) FP
 |byt i=>
  obtain⟨t,rfl⟩:=rx;cases y with
  |byt j=>obtain⟨t',rfl⟩:=ry;exact PySem.W.ne_bytes (bt I q (congrArg not w6))
  |_=>exact absurd (show false=true from hs) FP
 |_=>cases y<;>exact absurd (show false=true from hs) FP
theorem wB:OpR X (compareOp .Lt) (rI0 fun i j=>.bl (decide (i<j))):=CL fun _ _ _ _ _ _ _ q=>lt_int q
theorem nG:OpR X (compareOp .Gt) (rI0 fun i j=>.bl (decide (j<i))):=CL fun _ _ _ _ _ _ _ q=>gt_int q
theorem Ef:OpR X (compareOp .GtE) (rI0 fun i j=>.bl (decide (j<=i))):=CL fun _ _ _ _ _ _ _ q=>ge_int q
theorem hJ:OpR X (compareOp .Is) (fun x y H Q=>y=.non/\Q (.bl (decide (x=.non))) H):=by
 intro pins s σ H x y v u Q I rx ry h;obtain⟨rfl,q⟩:=h;cases ry;refine is_none_gen (bt I q ?_);cases x<;>first
  |(cases rx;rfl)
  |(obtain⟨t,rfl⟩:=rx;rfl)
theorem rM:OpR X (compareOp .IsNot) (fun x y H Q=>y=.non/\Q (.bl (!decide (x=.non))) H):=by
 intro pins s σ H x y v u Q I rx ry h;obtain⟨rfl,q⟩:=h;cases ry;refine isnot_none_gen (bt I q ?_);cases x<;>first
  |(cases rx;rfl)
  |(obtain⟨t,rfl⟩:=rx;rfl)
theorem aL(b:Expr){op:CmpOp}(h:op≠ .In:=by decide)(h2:op≠ .NotIn:=by decide):behindInMarks op b=false:=by
 have e1:(op==CmpOp.In)=false:=by cases op<;>first|rfl|exact absurd rfl h
 have e2:(op==CmpOp.NotIn)=false:=by cases op<;>first|rfl|exact absurd rfl h2
 cases b<;>simp[behindInMarks,e1,e2]
theorem cY{op:CmpOp}{r:R2}(ho:OpR X (compareOp op) r)(ha:PE X a ta)(hb:PE X b tb)(hm:behindInMarks op b=false):PE X (.Compare a [op] [b] pos) (tOp r ta tb):=by intro pins s σ H Q I h;exact wpAny_Compare1 (Dx ha hb I h fun v u s2 x y H2 I2 rx ry q=>ho pins s2 σ H2 x y v u Q I2 rx ry q) hm
def DL(t:TE):TT:=fun σ H Q=>t σ H fun x H'=>∃k,x=.bl k/\Q k H'
theorem aG{op:CmpOp}{r:R2}(ho:OpR X (compareOp op) r)(ha:PE X a ta)(hb:PE X b tb)(hm:behindInMarks op b=false):PT X (.Compare a [op] [b] pos) (DL (tOp r ta tb)):=by
 intro pins s σ H Q I h
 refine wpAny_isTrue_Compare1 (thn (ha pins s σ H _ I h) fun v s1 hPz=>L2.ep3 hPz fun x H1 I1 r1 q1=>thn (hb pins s1 σ H1 _ I1 q1) fun u s2 ⟨y,H2,I2,r2,q2⟩=>thn (ho pins s2 σ H2 x y v u _ I2 r1 r2 q2) fun c s3 ⟨z,H3,I3,r3,k,e,q3⟩=>?_) hm
 subst e;cases r3;exact wpAny_truthy_bool ⟨H3,I3,q3⟩
theorem oY:(sizeLine:Nat)<2^63:=by rw[Gm];decide
theorem oM:OpR X (binaryOp .Add) (fun x y H Q=>∃i j,x=.str i/\y=.str j/\i.length+j.length<=sizeLine/\Q (.str (i++j)) H):=by intro pins s σ H x y v u Q I rx ry h;obtain⟨i,j,rfl,rfl,hz,q⟩:=h;obtain⟨t,rfl⟩:=rx;obtain⟨t',rfl⟩:=ry;exact add_str (fun t' tk=>⟨.str (i++j),H,I.tok _,⟨_,rfl⟩,q⟩) hz
theorem vals1{x:V}{us:List Value}(r:Vals [x] us):∃u,us=[u]/\RelV x u:=by
 cases r with
 |cons r1 r2=>cases r2;exact⟨_,rfl,r1⟩
theorem vals2{x y:V}{us:List Value}(r:Vals [x,y] us):∃u w',us=[u,w']/\RelV x u/\RelV y w':=by
 cases r with
 |cons r1 r2=>
  cases r2 with
  |cons r3 r4=>cases r4;exact⟨_,_,rfl,r1,r3⟩
theorem yi(hc:X.calm=true):fh X (.builtin "max") (fun xs H Q=>∃i j,xs=[.int i,.int j]/\Q (.int (if j>i then j else i)) H):=by
 intro pins s σ H xs us Q I r h;obtain⟨i,j,rfl,q⟩:=h;obtain⟨u,w',rfl,⟨t,rfl⟩,⟨t',rfl⟩⟩:=vals2 r;refine max_two_ints (I.ok.hd hc) fun h' tk k=>⟨_,H,I.kept k,?_,q⟩;by_cases hj:j>i
 ·rw[FH hj,FH hj];exact⟨_,rfl⟩
 ·rw[FA hj,FA hj];exact⟨_,rfl⟩
theorem yh(hc:X.calm=true):fh X (.builtin "min") (fun xs H Q=>∃i j,xs=[.int i,.int j]/\Q (.int (if j<i then j else i)) H):=by
 intro pins s σ H xs us Q I r h;obtain⟨i,j,rfl,q⟩:=h;obtain⟨u,w',rfl,⟨t,rfl⟩,⟨t',rfl⟩⟩:=vals2 r;refine min_two_ints (I.ok.hd hc) fun h' tk k=>⟨_,H,I.kept k,?_,q⟩;by_cases hj:j<i
 ·rw[FH hj,FH hj];exact⟨_,rfl⟩
 ·rw[FA hj,FA hj];exact⟨_,rfl⟩
theorem mW:fh X (.type "int") (fun xs H Q=>(∃i,xs=[.int i]/\Q (.int i) H)\/∃k,xs=[.bl k]/\Q (.int (if k then 1 else 0)) H):=by
 intro pins s σ H xs us Q I r h;rcases h with⟨i,rfl,q⟩|⟨k,rfl,q⟩
 ·obtain⟨u,rfl,t,rfl⟩:=vals1 r;exact call_int_int ⟨.int i,H,I,⟨_,rfl⟩,q⟩
 ·obtain⟨u,rfl,r1⟩:=vals1 r;cases r1;exact call_int_bool ⟨.int (if k then 1 else 0),H,I.tok _,⟨_,rfl⟩,q⟩
end
structure vV(h:Heap)(x dx C:Addr)(mA:Str->Option Value):Prop where
 obj:h.get? x=some (PySem.W.instObj C dx)
 ns:h.Ns1 dx mA
 ne:dx≠x
theorem qK{h:Heap}{dx:Addr}{mA:Str->Option Value}(n:h.Ns1 dx mA):∃od,h.get? dx=some od/\∀name,PySem.W.lookIn name od=some (mA name):=by
 obtain⟨o,es,ep,ho,hd,hk,_,hm⟩:=n;refine⟨o,ho,fun name=>?_⟩;have e:=hm name;unfold nsFind findBy at e;rw[<-Array.find?_toList]at e;unfold PySem.W.lookIn;rw[hd];dsimp only;split
 ·rename_i y q;rw[q]at e;exact congrArg some e
 ·rename_i q;rw[q]at e;have a:es.toList.any (·.refKey)=false:=by
   rw[List.any_eq_false];intro y hy;obtain⟨z,t,hkey⟩:=hk y (Array.mem_toList_iff.mp hy);simp[DictEntry.refKey,hkey]
  have a':¬es.toList.any (·.refKey)=true:=by rw[a];exact FP
  rw[FA a'];exact congrArg some e
theorem vV.look{h:Heap}{x dx C:Addr}{mA:Str->Option Value}(I:vV h x dx C mA):∃od,PySem.W.InstAt h x (PySem.W.instObj C dx) C (some od)/\∀name,PySem.W.lookIn name od=some (mA name):=
 let ⟨od,ho,hl⟩:=qK I.ns
 ⟨od,⟨I.obj,rfl,rfl,ho⟩,hl⟩
section
variable{prog:Program}{w:World}{A:Around}{E:Value->Shared->Prop}{s:Shared}{K:Frag}{x dx C f:Addr}{mA:Str->Option Value}{name:Str}{v:Value}
theorem get_map{expr:Bool}{Q:Value->Shared->Prop}(X:K.In s.heap)(I:vV s.heap x dx C mA)(hg:PySem.W.plainGet K C name=true)(hh:PySem.W.hasDictIn K C=true)
  (ha:findIn K (.ref C) name=some none) (hv:mA name=some v) (hv':PySem.W.handedIn v=true) (h:Q v {s with toks:=s.toks+1}):
  wpAny (model prog w) A (getAttr (.ref x) name expr) Q E s:=by
 obtain⟨od,J,hl⟩:=I.look;exact PySem.W.get_value X J (PySem.W.plainGet_of hg).1 (PySem.W.findObj_own hh ha rfl (by rw[hl,hv])) hv' h
theorem zD{pl:Sem Bool}{Q:Value×List Value->Shared->Prop}(X:K.In s.heap)(I:vV s.heap x dx C mA)(hg:PySem.W.plainGet K C name=true)
  (hf:findIn K (.ref C) name=some (some (.ref f))) (ht:PySem.W.isFn K (.ref f)=true) (hv:mA name=none) (h:Q (.ref f,[.ref x]) s):
  wpAny (model prog w) A (getMethod (.ref x) name pl) Q E s:=by
 obtain⟨od,J,hl⟩:=I.look;exact PySem.W.method_fn X J (PySem.W.plainGet_of hg).1 (PySem.W.plainGet_of hg).2 hf (beq_iff_eq.mp ht) (by show(PySem.W.lookIn name od).map (·.isSome)=some false;rw[hl,hv];rfl) h
theorem AS{ns:List Str}{Q:Unit->Shared->Prop}(X:K.In s.heap)(I:vV s.heap x dx C mA)
  (hs:findIn K (.ref C) "__setattr__"=some (some (.builtin "object.__setattr__"))) (hp:PySem.W.plainOver K C=true) (ht:PySem.W.takerIn K C name=some none) (hh:PySem.W.hasDictIn K C=true)
  (hw:PySem.Within mA ns) (hsz:ns.length<=sizeLine)
  (h:∀h',vV h' x dx C (fun y=>if y=name then some v else mA y)->Heap.SameBut dx s.heap h'->Q () {s with heap:=h',toks:=s.toks+2}):
  wpAny (model prog w) A (setAttr (.ref x) name v) Q E s:=by
 obtain⟨od,J,hl⟩:=I.look;refine PySem.W.set_plain X J hs (PySem.W.osa_open (s:={s with toks:=s.toks+1}) (r:=none) X J hp ht fun b=>?_);obtain⟨cd,hc,hd'⟩:=PySem.W.any_some hh;have hx:s.heap.get? x=some ⟨.ref C,some dx,.plain,#[]⟩:=I.obj;refine Fl (Fo (Fl (Fl (wpAny_loadPart hx (Fl (PySem.W.Looks.here (s:={s with toks:=s.toks+1}) (PySem.W.looks_clsIn X hc) ?_))))));rw[hd'];refine Fo (a:=some dx) (Fl (Fo (Fl ?_)));refine wpAny_nsSet1 (s:={s with toks:=s.toks+1}) I.ns fun h' hn2 hs2=>?_;obtain⟨oD,esD,epD,hoD,hdD,hcD⟩:=hn2.count (PySem.Within.cons name v hw);refine Fl (wpAny_lookBehind hoD (by rw[hdD];exact pastItsLine_dict (FW hcD (by rw[FV];lia))) ?_);exact Fo (h _ ⟨(hs2.2 _ (GR I.ne)).trans I.obj,hn2,I.ne⟩ hs2)
theorem zm{R:Result->Shared->Prop}{vs:List Value}{kw:List (Str×Value)}(X:K.In s.heap)(hm:PySem.W.makesIn K C=true)
  (hi:findIn K (.ref C) "__init__"=some (some (.ref f))) (hf:PySem.W.typeIn K (.ref f)=some (.type "function"))
  (h:codeAny (model prog w) (A.under (.builtin "type.__call__" ⟨.ref C::vs,kw⟩)) (.call (.ref f) ⟨.ref (s.heap.objs.size+1)::vs,kw⟩) (PySem.W.InitBack (s.heap.objs.size+1) R) {s with heap:=(s.heap.push PySem.W.emptyDict).push (PySem.W.instObj C s.heap.objs.size)}):
  codeAny (model prog w) A (.call (.ref C) ⟨vs,kw⟩) R s:=by
 obtain⟨hh,g,d,t,os⟩:=s;exact PySem.W.make_core (PySem.W.makes_of X hm) (PySem.W.looks_findIn X hi) (fun self=>PySem.W.bind_fn X self hf) (.inl rfl) h
end
noncomputable def jL(f:Str)(v:V):List (Str×V)->List (Str×V)
 | []=>[(f,v)]
 |(g,x)::r=>if g=f then(g,v)::r else(g,x)::jL f v r
theorem nH(f g:Str)(v:V):∀fs:List (Str×V),(jL f v fs).lookup g=if g=f then some v else fs.lookup g
 | []=>by
  show List.lookup g [(f,v)]=_;by_cases h:g=f
  ·have hb:(g==f)=true:=beq_iff_eq.mpr h;simp only[List.lookup,hb,FH h]
  ·have hb:(g==f)=false:=beq_eq_false_iff_ne.mpr h;simp only[List.lookup,hb,FA h]
 |(k,x)::r=>by
  have ih:=nH f g v r;rw[show jL f v ((k,x)::r)=(if k=f then(k,v)::r else(k,x)::jL f v r)from rfl];by_cases hk:k=f
  ·rw[FH hk];by_cases h:g=k
   ·have hb:(g==k)=true:=beq_iff_eq.mpr h;simp only[List.lookup,hb,FH (h.trans hk)]
   ·have hb:(g==k)=false:=beq_eq_false_iff_ne.mpr h;simp only[List.lookup,hb,FA (fun e:g=f=>h (e.trans hk.symm))]
  ·rw[FA hk];by_cases h:g=k
   ·have hb:(g==k)=true:=beq_iff_eq.mpr h;simp only[List.lookup,hb,FA (fun e:g=f=>hk (h.symm.trans e))]
   ·have hb:(g==k)=false:=beq_eq_false_iff_ne.mpr h;simp only[List.lookup,hb];exact ih
theorem mO(f:Str)(v:V):∀fs:List (Str×V),f∈(jL f v fs).map (·.1)/\∀g,g∈fs.map (·.1)->g∈(jL f v fs).map (·.1)
 | []=>⟨by simp[jL],fun g h=>by simp at h⟩
 |(k,x)::r=>by
  obtain⟨i1,i2⟩:=mO f v r;rw[show jL f v ((k,x)::r)=(if k=f then(k,v)::r else(k,x)::jL f v r)from rfl];by_cases hk:k=f
  ·rw[FH hk];subst hk;exact⟨by simp,fun g h=>by simpa using h⟩
  ·rw[FA hk];refine⟨?_,fun g h=>?_⟩
   ·rw[FG];exact Ft _ i1
   ·rw[FG]at h ⊢;rcases FL.mp h with e|e
    ·exact FL.mpr (.inl e)
    ·exact Ft _ (i2 g e)
theorem nJ(f:Str)(v:V):∀fs:List (Str×V),(jL f v fs).length<=fs.length+1
 | []=>by simp[jL]
 |(k,x)::r=>by
  have ih:=nJ f v r;rw[show jL f v ((k,x)::r)=(if k=f then(k,v)::r else(k,x)::jL f v r)from rfl];by_cases hk:k=f
  ·rw[FH hk,FV,FV];lia
  ·rw[FA hk,FV,FV];lia
theorem hU.some_of{v:V}{o:Option Value}(r:hU (some v) o):∃u,o=some u/\RelV v u:=by
 cases o with
 |none=>exact(show False from r).elim
 |some u=>exact⟨u,rfl,r⟩
theorem hU.none_of{o:Option Value}(r:hU none o):o=none:=by
 cases o with
 |none=>rfl
 |some u=>exact(show False from r).elim
theorem qL{v:V}{u:Value}(r:RelV v u):PySem.W.handedIn u=true:=by
 cases v with
 |non=>cases (show u=Value.none from r);rfl
 |bl b=>cases (show u=Value.bool b from r);rfl
 |int i=>obtain⟨t,e⟩:=(show ∃t,u=Value.int i t from r);cases e;rfl
 |str x=>obtain⟨t,e⟩:=(show ∃t,u=Value.str x t from r);cases e;rfl
 |byt b=>obtain⟨t,e⟩:=(show ∃t,u=Value.bytes b t from r);cases e;rfl
 |flt b=>obtain⟨t,e⟩:=(show ∃t,u=Value.float b t from r);cases e;rfl
 |ref a=>cases (show u=Value.ref a from r);rfl
 |ty n=>cases (show u=Value.type n from r);rfl
section
variable{P:Program}{w:World}{H H':Hp}{h h':Heap}{a C dx:Addr}{fs fs':List (Str×V)}
theorem nZ(hok:HOk P w H h)(e:H a=some (.ins C dx fs)):∃mA,vV h a dx C mA/\(∀f,hU (fs.lookup f) (mA f))/\PySem.Within mA (fs.map (·.1))/\fs.length<=1000/\H dx=some (.own a):=by obtain⟨d,z,ne,ob,mA,n,r,q⟩:=(show bR P w H h a (.ins C dx fs)from hok a _ e);exact⟨mA,⟨ob,n,ne⟩,r,q,z,d⟩
end
structure Cls(K:Frag)(C:Addr):Prop where
 pg:PySem.W.plainGet K C Str.empty=true
 hd:PySem.W.hasDictIn K C=true
 po:PySem.W.plainOver K C=true
 sa:findIn K (.ref C) "__setattr__"=some (some (.builtin "object.__setattr__"))
theorem Cls.get{K:Frag}{C:Addr}(c:Cls K C)(f:Str):PySem.W.plainGet K C f=true:=c.pg
def ba(K:Frag)(C:Addr)(f:Str):Prop:=findIn K (.ref C) f=some none
theorem ba.taker{K:Frag}{C:Addr}{f:Str}(n:ba K C f):PySem.W.takerIn K C f=some none:=by unfold PySem.W.takerIn;rw[show findIn K (.ref C) f=some none from n];rfl
structure Meth(K:Frag)(C:Addr)(m:Str)(f:Addr):Prop where
 at_:findIn K (.ref C) m=some (some (.ref f))
 fn:PySem.W.isFn K (.ref f)=true
 kp:keepIn K (.ref f)=true
section
variable{X:Cx}{pins:List (Addr×Obj)}{σ:St}{H:Hp}{s:Shared}{a C dx:Addr}{fs:List (Str×V)}{f:Str}{v:V}{A:Around}{E:Value->Shared->Prop}
theorem vD{b:Bool}{Q:Value->Shared->Prop}(I:Inv X pins σ H s)(e:H a=some (.ins C dx fs))(c:Cls X.K C)(n:ba X.K C f)(l:fs.lookup f=some v)
  (h:∀u s',Inv X pins σ H s'->RelV v u->Q u s'):wpAny (model X.prog X.w) A (getAttr (.ref a) f b) Q E s:=by
 obtain⟨mA,O,r,_,_,_⟩:=nZ I.hok e;obtain⟨u,hu,ru⟩:=hU.some_of (v:=v) (o:=mA f) (by rw[<-l];exact r f);exact get_map I.kIn O (c.get f) c.hd n hu (qL ru) (h u _ (I.tok _) ru)
theorem vC{m:Str}{g:Addr}{pl:Sem Bool}{Q:Value×List Value->Shared->Prop}(I:Inv X pins σ H s)(e:H a=some (.ins C dx fs))(c:Cls X.K C)(k:Meth X.K C m g)(l:fs.lookup m=none)
  (h:Q (.ref g,[.ref a]) s):wpAny (model X.prog X.w) A (getMethod (.ref a) m pl) Q E s:=by
 obtain⟨mA,O,r,_,_,_⟩:=nZ I.hok e;have hn:mA m=none:=hU.none_of (by rw[<-l];exact r m);exact zD I.kIn O (c.get m) k.at_ k.fn hn h
theorem uV{y:V}{u:Value}{Q:Unit->Shared->Prop}(I:Inv X pins σ H s)(e:H a=some (.ins C dx fs))(c:Cls X.K C)(n:ba X.K C f)(hl:fs.length<1000)(ry:RelV y u)
  (h:∀s',Inv X pins σ (upd H a (.ins C dx (jL f y fs))) s'->Q () s'):wpAny (model X.prog X.w) A (setAttr (.ref a) f u) Q E s:=by
 obtain⟨mA,O,r,wi,_,ho⟩:=nZ I.hok e;have hz:(fs.map (·.1)).length<=sizeLine:=by rw[Fm,Gm];lia
 refine AS I.kIn O c.sa c.po n.taker c.hd wi hz fun h' O' sb=>h _ ?_;have hd:∃o,h'.get? dx=some o:=let ⟨o,_,_,e',_⟩:=O'.ns;⟨o,e'⟩;refine I.write (x:=a) (e:=dx) (by rw[e];exact True.intro) (.inr ho) (fun b q hb z=>(sb.2 b hb).trans z) hd ?_;refine⟨by rw[au O.ne];exact ho,?_,O.ne,O'.obj,_,O'.ns,fun g=>?_,fun g hg=>?_⟩
 ·have:=nJ f y fs;lia
 ·show hU ((jL f y fs).lookup g) (if g=f then some u else mA g);rw[nH];by_cases q:g=f
  ·rw[FH q,FH q];exact ry
  ·rw[FA q,FA q];exact r g
 ·by_cases q:g=f
  ·rw[q];exact(mO f y fs).1
  ·refine(mO f y fs).2 g (wi g fun z=>hg ?_);show(if g=f then some u else mA g)=none;rw[FA q];exact z
theorem Inv.made(I:Inv X pins σ H s):Inv X pins σ (upd (upd H s.heap.objs.size (.own (s.heap.objs.size+1))) (s.heap.objs.size+1) (.ins C s.heap.objs.size []))
  {s with heap:=(s.heap.push PySem.W.emptyDict).push (PySem.W.instObj C s.heap.objs.size)}:=by
 have e1:(s.heap.push PySem.W.emptyDict).get? s.heap.objs.size=some PySem.W.emptyDict:=FT s.heap rfl;have e2:((s.heap.push PySem.W.emptyDict).push (PySem.W.instObj C s.heap.objs.size)).get? (s.heap.objs.size+1)=some (PySem.W.instObj C s.heap.objs.size):=by have:=FT (s.heap.push PySem.W.emptyDict) (o:=PySem.W.instObj C s.heap.objs.size) rfl;rwa[Heap.size_push]at this
 have e3:(s.heap.push PySem.W.emptyDict).Ns s.heap.objs.size (fun _=>none):=⟨PySem.W.emptyDict,#[],_,e1,rfl,(fun e he=>absurd he (by simp)),fun _=>rfl⟩;have I1:=I.laid (a:=s.heap.objs.size) (o:=.own (s.heap.objs.size+1)) (h':=s.heap.push PySem.W.emptyDict) (t':=s.toks) (fun b u q=>Fn _ q) (Fv _) ⟨_,e1⟩;refine I1.laid (a:=s.heap.objs.size+1) (o:=.ins C s.heap.objs.size []) (t':=s.toks) (fun b u q=>Fn _ q) (Nat.le_of_eq (Heap.size_push _ _)) ?_;have ne:s.heap.objs.size≠s.heap.objs.size+1:=F4 (Nat.lt_succ_self _);refine⟨by rw[au ne,ae],F1 _,ne,e2,fun _=>none,(Heap.Ns1.of_empty e3).at fun o q=>Fn _ q,fun _=>True.intro,fun y hy=>absurd rfl hy⟩
theorem xb{prog:Program}{w:World}{env:Env}{e:Expr}{f:Str}{pos:Pos}{s:Shared}{Q:Value->Shared->Prop}(hb:attributeBase e f env (eval e env)=eval e env)
  (h:wpAny (model prog w) A (eval e env) (fun o s₁=>wpAny (model prog w) A (getAttr o f true) Q E s₁) E s):wpAny (model prog w) A (eval (.Attribute e f pos) env) Q E s:=
 Attribute_any_ h (by rw[arm_eval_Attribute,hb])
end
def ER(K:Frag)(ta:TE)(f:Str):TE:=fun σ H Q=>ta σ H fun x H1=>∃a C dx fs v,x=.ref a/\H1 a=some (.ins C dx fs)/\Cls K C/\ba K C f/\fs.lookup f=some v/\Q v H1
def EV(K:Frag)(ta tv:TE)(f:Str):TS:=fun D σ H=>tv σ H fun y H1=>ta σ H1 fun x H2=>∃a C dx fs,x=.ref a/\H2 a=some (.ins C dx fs)/\Cls K C/\ba K C f/\fs.length<1000/\
 D.nx σ (upd H2 a (.ins C dx (jL f y fs)))
section
variable{X:Cx}{o e value:Expr}{f:Str}{pos pos' tpos:Pos}{ta tv:TE}
theorem fq(he:PE X e ta)(hb:attributeBase e f X.env (eval e X.env)=eval e X.env):PE X (.Attribute e f pos) (ER X.K ta f):=by intro pins s σ H Q I h;refine xb hb (thn (he pins s σ H _ I h) fun u s1 hPz=>?_);obtain⟨x,H1,I1,rx,a,C,dx,fs,v,ex,ea,c,n,l,q⟩:=hPz;subst ex;obtain rfl:u=Value.ref a:=rx;exact vD I1 ea c n l fun u' s2 I2 ru=>⟨v,H1,I2,ru,q⟩
theorem je(ha:PE X o ta)(hv:PE X value tv)(hs:swapsWith value (some (.Attribute o f pos')) pos.line X.env=pure false):PS X (.Assign [.Attribute o f pos'] value pos) (EV X.K ta tv f):=by intro pins s σ H D I h;refine plainObj_wpAny_Assign_Attribute (thn (hv pins s σ H _ I h) fun u s1 hPz=>L2.ep3 hPz fun y H1 I1 ry q=>thn (ha pins s1 σ H1 _ I1 q) fun ov s2 hPz=>?_) hs;obtain⟨x,H2,I2,rx,a,C,dx,fs,ex,ea,c,n,l,q2⟩:=hPz;subst ex;obtain rfl:ov=Value.ref a:=rx;exact uV I2 ea c n l ry fun s3 I3=>⟨σ,_,I3,q2⟩
end
section
variable{X:Cx}{pins:List (Addr×Obj)}{σ:St}{H:Hp}{s:Shared}{A:Around}{E:Value->Shared->Prop}{Q:Value->Shared->Prop}{c:Value}{b:Bool}
inductive gI(K:Frag)(H:Hp):V->Value->Prop where
 |non:gI K H .non (.type "NoneType")
 |bl (x:Bool):gI K H (.bl x) (.type "bool")
 |int (i:Int):gI K H (.int i) (.type "int")
 |str (x:Str):gI K H (.str x) (.type "str")
 |flt (x:UInt64):gI K H (.flt x) (.type "float")
 |lst {a:Addr} {xs:List V} (e:H a=some (.lst xs)):gI K H (.ref a) (.type "list")
 |frz {a:Addr} {o:Obj} {xs:List V} (e:H a=some (.frz o (.lst xs))):gI K H (.ref a) (.type "list")
 |tup {a:Addr} {xs:List V} (e:H a=some (.tup xs)):gI K H (.ref a) (.type "tuple")
 |dK {a:Addr} {kvs:List (Key×V)} (e:H a=some (.dK kvs)):gI K H (.ref a) (.type "dict")
 |dT {a:Addr} {kvs:List (List Key×V)} (e:H a=some (.dT kvs)):gI K H (.ref a) (.type "dict")
 |ins {a C dx:Addr} {fs:List (Str×V)} (e:H a=some (.ins C dx fs)) (cl:Cls K C) (ha:findIn K (.ref C) "__class__"=some (some (.builtin "object.__class__")))
  (hn:PySem.W.specialIn K (.builtin "object.__class__") "__get__"=some (some (.builtin "getset_descriptor.__get__"))) (htk:PySem.W.takesIn K (.builtin "object.__class__")=some true)
  (hm:mroIn K C (.type "object")=some true):gI K H (.ref a) (.ref C)
theorem xY{x:V}{u t:Value}(I:Inv X pins σ H s)(rx:RelV x u)(ty:gI X.K H x t)(e:kitOne X.K t c=some b)(h:∀tk,Q (.bool b) {s with toks:=tk}):
  wpAny (model X.prog X.w) A (call (.builtin "isinstance") [u,c]) Q E s:=by
 cases ty with
 |non=>cases (show u=Value.none from rx);exact GN PySem.W.kitx_none I.kIn True.intro e (fun z=>nomatch z) h
 |bl y=>cases (show u=Value.bool y from rx);exact GN PySem.W.kitx_bool I.kIn True.intro e (fun z=>nomatch z) h
 |int i=>obtain⟨t,q⟩:=(show ∃t,u=Value.int i t from rx);cases q;exact GN PySem.W.kitx_int I.kIn True.intro e (fun z=>nomatch z) h
 |str y=>obtain⟨t,q⟩:=(show ∃t,u=Value.str y t from rx);cases q;exact GN PySem.W.kitx_str I.kIn True.intro e (fun z=>nomatch z) h
 |flt y=>obtain⟨t,q⟩:=(show ∃t,u=Value.float y t from rx);cases q;exact GN PySem.W.kitx_float I.kIn True.intro e (fun z=>nomatch z) h
 | @lst a xs ea=>cases (show u=Value.ref a from rx);obtain⟨_,_,n,_,h1⟩:=(show bR X.prog X.w H s.heap a (.lst xs)from I.hok a _ ea);exact GN PySem.W.kitx_list I.kIn ⟨_,h1,rfl⟩ e (fun z=>nomatch z) h
 | @frz a ob xs ea=>cases (show u=Value.ref a from rx);obtain⟨_,_,_,n,_,h1⟩:=(show bR X.prog X.w H s.heap a (.frz ob (.lst xs))from I.hok a _ ea);exact GN PySem.W.kitx_list I.kIn ⟨_,h1,rfl⟩ e (fun z=>nomatch z) h
 | @tup a xs ea=>cases (show u=Value.ref a from rx);obtain⟨_,_,_,p⟩:=(show bR X.prog X.w H s.heap a (.tup xs)from I.hok a _ ea);obtain⟨o,h1,h2,_⟩:=p;exact GN PySem.W.kitx_tuple I.kIn ⟨o,h1,h2⟩ e (fun z=>nomatch z) h
 | @dK a kvs ea=>cases (show u=Value.ref a from rx);obtain⟨_,_,vs,_,p⟩:=(show bR X.prog X.w H s.heap a (.dK kvs)from I.hok a _ ea);obtain⟨o,es,ep,h1,h2,_⟩:=p;exact GN PySem.W.kitx_dict I.kIn ⟨o,h1,h2.1⟩ e (fun z=>nomatch z) h
 | @dT a kvs ea=>cases (show u=Value.ref a from rx);obtain⟨_,_,xs,_,o,es,ep,h1,h2,_⟩:=(show bR X.prog X.w H s.heap a (.dT kvs)from I.hok a _ ea);exact GN PySem.W.kitx_dict I.kIn ⟨o,h1,h2.1⟩ e (fun z=>nomatch z) h
 | @ins a C dx fs ea cl ha hn htk hm=>cases (show u=Value.ref a from rx);obtain⟨mA,O,_⟩:=nZ I.hok ea;obtain⟨od,J,_⟩:=O.look;exact GN (PySem.W.kitx_own (cl.get _) cl.hd ha hn htk hm) I.kIn J e (fun z=>nomatch z) h
end
structure cA(k:Nat)(A:Around):Prop where
 hd:A.handled=none
 dp:A.depth+3*k+5<recursionLimit
 un:A.units+16*k+200<cLine
theorem cA.mono{j k:Nat}{A:Around}(r:cA k A)(h:j<=k):cA j A:=⟨r.hd,by have:=r.dp;lia,by have:=r.un;lia⟩
theorem cA.deeper{k:Nat}{A:Around}(r:cA (k+1) A)(env:Env):cA k (A.deeper env):=
 ⟨r.hd,by have:=r.dp;show A.depth+1+3*k+5<_;lia,by have:=r.un;show A.units+3+16*k+200<_;lia⟩
theorem cA.in1{k:Nat}{A:Around}(r:cA (k+1) A):cA k A.in1:=
 ⟨r.hd,by have:=r.dp;show A.depth+3*k+5<_;lia,by have:=r.un;show A.units+1+16*k+200<_;lia⟩
theorem vp{A:Around}{C:Addr}{us:List Value}{kw:List (Str×Value)}:(A.under (.builtin "type.__call__" ⟨.ref C::us,kw⟩)).depth=A.depth+1:=by first|rfl|simp[Around.under,Code.weight,Code.isCreation,Code.isGuard,Code.isCaller,Code.frames,Code.isFrame,guardIds]
theorem vo{A:Around}{C:Addr}{us:List Value}{kw:List (Str×Value)}:(A.under (.builtin "type.__call__" ⟨.ref C::us,kw⟩)).units=A.units+1:=by first|rfl|simp[Around.under,Code.cUnits,Code.frames,Code.isFrame]
theorem cA.make{k:Nat}{A:Around}(r:cA (k+1) A)(C:Addr)(us:List Value)(kw:List (Str×Value)):cA k (A.under (.builtin "type.__call__" ⟨.ref C::us,kw⟩)):=
 ⟨r.hd,by have:=r.dp;rw[vp];lia,by have:=r.un;rw[vo];lia⟩
theorem cA.depth{k:Nat}{A:Around}(r:cA k A):A.depth<recursionLimit:=by have:=r.dp;lia
theorem cA.units{k:Nat}{A:Around}(r:cA k A):A.units+64<cLine:=by have:=r.un;lia
def EL:TA:=fun _ H Q=>Q [] H
def DW(ta:TE)(tr:TA):TA:=fun σ H Q=>ta σ H fun x H1=>tr σ H1 fun xs H2=>Q (x::xs) H2
section
variable{X:Cx}{e:Expr}{es:List Expr}{te:TE}{t:TA}{pos:Pos}
theorem ag:PA X [] EL:=fun _ _ _ _ H Q I h=>Calls.spliced_nil ⟨[],H,I,.nil,h⟩
theorem aa(ha:PE X e te)(hr:PA X es t)(hs:starEach (e::es) X.env=(false,eval e X.env)::starEach es X.env:=by rfl):PA X (e::es) (DW te t):=by intro pos pins s σ H Q I h;rw[hs];show wpAny _ _ (spliced ((false,eval e X.env)::backTo pos (starEach es X.env))) _ _ s;refine Calls.spliced_cons (thn (ha pins s σ H _ I h) fun u s1 hPz=>?_);obtain⟨x,H1,I1,r1,q1⟩:=hPz;exact thn (hr pos pins s1 σ H1 _ I1 q1) fun us s2 hPz=>L2.ep3 hPz fun xs H2 I2 r2 q2=>⟨x::xs,H2,I2,.cons r1 r2,q2⟩
def EF(t:TA):TE:=fun σ H Q=>t σ H fun xs H1=>xs.length<=sizeLine/\∀p,H1 p=none->Q (.ref p) (upd H1 p (.tup xs))
def EM(t:TA):TE:=fun σ H Q=>t σ H fun xs H1=>xs.length<=sizeLine/\∀p,H1 p=none->Q (.ref p) (upd H1 p (.lst xs))
theorem aR{x1}(h:PA X es t):PE X (.Tuple es x1 pos) (EF t):=by intro pins s σ H Q I hq;refine wpAny_Tuple_spliced (thn (h pos pins s σ H _ I hq) fun us s1 ⟨xs,H1,I1,r,z,q⟩=>⟨by rw[<-r.length];exact z,?_⟩);have hf:H1 s1.heap.objs.size=none:=I1.hok.fresh (Fv _);refine⟨.ref s1.heap.objs.size,upd H1 s1.heap.objs.size (.tup xs),I1.laid (t':=s1.toks) (fun b u e=>Fn _ e) (Fv _) ?_,rfl,q _ hf⟩;exact⟨z,us,r,⟨_,FT _ rfl,rfl,_,rfl⟩⟩
theorem dy(h:PA X es t):PE X (.List es pos) (EM t):=by intro pins s σ H Q I hq;refine wpAny_List_spliced (thn (h pos pins s σ H _ I hq) fun us s1 ⟨xs,H1,I1,r,z,q⟩=>⟨by rw[<-r.length];exact z,?_⟩);have hf:H1 s1.heap.objs.size=none:=I1.hok.fresh (Fv _);refine⟨.ref s1.heap.objs.size,upd H1 s1.heap.objs.size (.lst xs),I1.laid (t':=s1.toks) (fun b u e=>Fn _ e) (Fv _) ?_,rfl,q _ hf⟩;exact⟨z,us,0,r,FT _ rfl⟩
end
noncomputable abbrev Sp:=List V->Hp->VK->XK->Prop
noncomputable abbrev CXT:=List Env->Hp->Shared->XK->Value->Shared->Prop
structure qk(P:Program)(w:World)(K:Frag)(mg:Str->Option Value)(base:Heap)(A:Around)(outer:List Env)(s:Shared)(H:Hp):Prop where
 frames:A.frames=some outer
 mod:Mod K mg base
 bs:∀b o,base.get? b=some o->s.heap.get? b=some o/\H b=none
 bsz:base.objs.size<=s.heap.objs.size
 funs:s.heap.FunFrames base outer
 frf:∀b∈frs outer,H b=none
 hok:HOk P w H s.heap
 bare:AllBare s.gens
def CE(outer:List Env)(P:Program)(w:World)(H:Hp)(s:Shared)(Q:VK)(u:Value)(s':Shared):Prop:=
 ∃v H',s'.os=s.os/\AllBare s'.gens/\Un (frs outer) [] H H' s.heap s'.heap/\HOk P w H' s'.heap/\RelV v u/\Q v H'
def CR(CX:CXT)(outer:List Env)(P:Program)(w:World)(H:Hp)(s:Shared)(Q:VK)(E:XK)(r:Result)(s':Shared):Prop:=
 match r with
 | .ok (.ret u)=>CE outer P w H s Q u s'
 | .ok _=>False
 | .error e=>CX outer H s E e s'
structure gK(P:Program)(w:World)(K:Frag)(mg:Str->Option Value)(base:Heap)(CX:CXT)(k:Nat)(f:Addr)(fd:FuncData)(ps:List Str)(sp:Sp):Prop where
 len:∀vs H Q E,sp vs H Q E->vs.length=ps.length
 run:∀(A:Around)(outer:List Env)(s:Shared)(H:Hp)(args:Args)(us:List Value)(vs:List V)(Q:VK)(E:XK),cA k A->qk P w K mg base A outer s H->BindsTo s fd args (ps.zip us)->Vals vs us->sp vs H Q E->
  codeAny (model P w) A (.call (.ref f) args) (CR CX outer P w H s Q E) s
theorem gK.mono{P:Program}{w:World}{K:Frag}{mg:Str->Option Value}{base:Heap}{CX:CXT}{j k:Nat}{f:Addr}{fd:FuncData}{ps:List Str}{sp:Sp}(F:gK P w K mg base CX j f fd ps sp)(h:j<=k):
 gK P w K mg base CX k f fd ps sp:=⟨F.len,fun A outer s H args us vs Q E hr=>F.run A outer s H args us vs Q E (hr.mono h)⟩
theorem qk.make{P:Program}{w:World}{K:Frag}{mg:Str->Option Value}{base:Heap}{A:Around}{outer:List Env}{s:Shared}{H:Hp}(e:qk P w K mg base A outer s H)(C:Addr)(us:List Value)(kw:List (Str×Value)):
 qk P w K mg base (A.under (.builtin "type.__call__" ⟨.ref C::us,kw⟩)) outer s H:=⟨by first|exact e.frames|(simpa[Around.under,Code.envs,Code.isFrame,pushEnvs]using e.frames),e.mod,e.bs,e.bsz,e.funs,e.frf,e.hok,e.bare⟩
theorem qk.in1{P:Program}{w:World}{K:Frag}{mg:Str->Option Value}{base:Heap}{A:Around}{outer:List Env}{s:Shared}{H:Hp}(e:qk P w K mg base A outer s H):
 qk P w K mg base A.in1 outer s H:=⟨e.frames,e.mod,e.bs,e.bsz,e.funs,e.frf,e.hok,e.bare⟩
section
variable{X:Cx}{pins:List (Addr×Obj)}{σ:St}{H:Hp}{s s':Shared}
theorem Inv.env0(I:Inv X pins σ H s):qk X.prog X.w X.K X.mg X.base X.A X.stack s H:=
 ⟨I.ok.frames,I.ok.mod,I.bs,FW I.ok.bsz I.sz,I.stack,I.stkFree,I.hok,I.bare⟩
theorem Inv.after{Q:VK}{u:Value}(I:Inv X pins σ H s)(h:CE X.stack X.prog X.w H s Q u s'):EP X pins σ Q u s':=by obtain⟨v,H',os,bare,un,hok,r,q⟩:=h;obtain⟨hh,g,d,t,os'⟩:=s';obtain rfl:os'=s.os:=os;exact⟨v,H',I.call (h':=hh) (g':=g) (d':=d) (t':=t) (ch:=[]) un hok bare (fun b z=>absurd z (by simp)),r,q⟩
end
def m4(sp:Sp)(dvs:List V)(E:XK)(t:TA):TE:=fun σ H Q=>t σ H fun vs H1=>sp (vs++dvs) H1 Q E
def BY(C:Addr)(sp:Sp)(dvs:List V)(E:XK)(t:TA):TE:=fun σ H Q=>t σ H fun vs H1=>∀x dx,H1 x=none->H1 dx=none->dx≠x->
 sp (.ref x::(vs++dvs)) (upd (upd H1 dx (.own x)) x (.ins C dx [])) (fun v H2=>v=.non/\Q (.ref x) H2) E
def Binds(K:Frag)(fd:FuncData)(ps:List Str)(ds:List Value):Prop:=
 ∀(s:Shared)(us:List Value),K.In s.heap->(us++ds).length=ps.length->BindsTo s fd ⟨us,[]⟩ (ps.zip (us++ds))
theorem Binds.all{K:Frag}{fd:FuncData}{ps:List Str}(h:∀us:List Value,us.length=ps.length->bindArgs fd ⟨us,[]⟩=pure (ps.zip us)):Binds K fd ps []:=fun s us _ hl=>by rw[F3]at hl ⊢;exact .of_eq (h us hl)
def Passes(CX:CXT)(X:Cx)(E:XK):Prop:=∀(pins:List (Addr×Obj))(σ:St)(H:Hp)(s:Shared)(e:Value)(s':Shared),Inv X pins σ H s->CX X.stack H s E e s'->X.xe e s'
section
variable{X:Cx}{CX:CXT}{k:Nat}{f C:Addr}{fd:FuncData}{ps:List Str}{sp:Sp}{dvs:List V}{ds:List Value}{E:XK}{x m:Str}{p pos apos:Pos}{e o:Expr}{es:List Expr}{ta:TE}{t:TA}
theorem uY{pins:List (Addr×Obj)}{σ:St}{H:Hp}{s:Shared}{Q:VK}{us:List Value}{vs:List V}(F:gK X.prog X.w X.K X.mg X.base CX k f fd ps sp)(hr:cA k X.A)(hb:Binds X.K fd ps ds)(hd:Vals dvs ds)(hx:Passes CX X E)
  (I:Inv X pins σ H s) (r:Vals vs us) (h:sp (vs++dvs) H Q E):wpAny (model X.prog X.w) X.A (call (.ref f) us) (EP X pins σ Q) X.xe s:=by
 have r2:Vals (vs++dvs) (us++ds):=r.append hd;have hl:(us++ds).length=ps.length:=by rw[<-r2.length];exact F.len _ _ _ _ h
 refine wpAny_call (codeAny_mono (F.run X.A X.stack s H ⟨us,[]⟩ (us++ds) (vs++dvs) Q E hr I.env0 (hb s us I.kIn hl) r2 h) fun r s' hq=>?_);cases r with
 |error e=>exact hx pins σ H s e s' I hq
 |ok fl=>
  cases fl with
  |ret u=>exact I.after hq
  |next=>exact False.elim hq
  |brk=>exact False.elim hq
  |cont=>exact False.elim hq
theorem wA(F:gK X.prog X.w X.K X.mg X.base CX k f fd ps sp)(hr:cA k X.A)(hg:Gl X x)(hm:X.mg x=some (.ref f))(hk:keepIn X.K (.ref f)=true)(hb:Binds X.K fd ps ds)(hd:Vals dvs ds)(hx:Passes CX X E)
  (ha:PA X (e::es) t) (hdb:(x==("__debug__":Str))=false:=by decide) (he:starEach (e::es) X.env=(false,eval e X.env)::starEach es X.env:=by rfl) (hpl:(backTo pos (starEach es X.env)).any (·.1)=false:=by rfl):
  PE X (.Call (.Name x p) (e::es) [] pos) (m4 sp dvs E t):=by
 intro pins s σ H Q I h;refine wpAny_Call_Name_kw (jC I hg hm ?_ hdb);refine PySem.W.callWith_K (h₀:=X.base) I.ok.mod.kin hk (thn (ha pos pins s σ H _ I h) fun us s1 hPz=>L2.ep3 hPz fun vs H1 I1 r q=>⟨I1.kIn,?_⟩) he hpl;exact uY F hr hb hd hx I1 r q
structure Mk(K:Frag)(C f:Addr):Prop where
 makes:PySem.W.makesIn K C=true
 init:findIn K (.ref C) "__init__"=some (some (.ref f))
 fn:PySem.W.isFn K (.ref f)=true
 kp:keepIn K (.ref C)=true
theorem yP{pins:List (Addr×Obj)}{σ:St}{H:Hp}{s:Shared}{Q:VK}{us:List Value}{vs:List V}(M:Mk X.K C f)(F:gK X.prog X.w X.K X.mg X.base CX k f fd ps sp)(hr:cA (k+1) X.A)(hb:Binds X.K fd ps ds)(hd:Vals dvs ds)
  (hx:Passes CX X E) (I:Inv X pins σ H s) (r:Vals vs us)
  (h:∀x dx,H x=none->H dx=none->dx≠x->sp (.ref x::(vs++dvs)) (upd (upd H dx (.own x)) x (.ins C dx [])) (fun v H2=>v=.non/\Q (.ref x) H2) E):
  wpAny (model X.prog X.w) X.A (call (.ref C) us) (EP X pins σ Q) X.xe s:=by
 have hq:=h (s.heap.objs.size+1) s.heap.objs.size (I.hok.fresh (Nat.le_succ _)) (I.hok.fresh (Fv _)) (F4 (Nat.lt_succ_self _));have I2:=Inv.made (C:=C) I;have r2:Vals (V.ref (s.heap.objs.size+1)::(vs++dvs)) (Value.ref (s.heap.objs.size+1)::(us++ds)):=.cons rfl (r.append hd);have hl:(Value.ref (s.heap.objs.size+1)::us++ds).length=ps.length:=by have e:=r2.length;rw[F.len _ _ _ _ hq]at e;exact e.symm
 refine wpAny_call (zm (f:=f) I.kIn M.makes M.init (beq_iff_eq.mp M.fn) (codeAny_mono (F.run _ X.stack _ _ ⟨Value.ref (s.heap.objs.size+1)::us,[]⟩ (Value.ref (s.heap.objs.size+1)::(us++ds)) _ _ E (hr.make C us []) (I2.env0.make C us []) (hb _ (Value.ref (s.heap.objs.size+1)::us) I2.kIn hl) r2 hq) fun r s' hq'=>?_));cases r with
 |error e=>exact hx pins σ _ _ e s' I2 hq'
 |ok fl=>
  cases fl with
  |ret u=>obtain⟨v,H',I3,rv,ev,q3⟩:=I2.after hq';subst ev;exact⟨rv,⟨V.ref (s.heap.objs.size+1),H',I3,rfl,q3⟩⟩
  |next=>exact False.elim hq'
  |brk=>exact False.elim hq'
  |cont=>exact False.elim hq'
theorem A7(M:Mk X.K C f)(F:gK X.prog X.w X.K X.mg X.base CX k f fd ps sp)(hr:cA (k+1) X.A)(hg:Gl X x)(hm:X.mg x=some (.ref C))(hb:Binds X.K fd ps ds)(hd:Vals dvs ds)(hx:Passes CX X E)
  (ha:PA X (e::es) t) (hdb:(x==("__debug__":Str))=false:=by decide) (he:starEach (e::es) X.env=(false,eval e X.env)::starEach es X.env:=by rfl) (hpl:(backTo pos (starEach es X.env)).any (·.1)=false:=by rfl):
  PE X (.Call (.Name x p) (e::es) [] pos) (BY C sp dvs E t):=by
 intro pins s σ H Q I h;refine wpAny_Call_Name_kw (jC I hg hm ?_ hdb);refine PySem.W.callWith_K (h₀:=X.base) I.ok.mod.kin M.kp (thn (ha pos pins s σ H _ I h) fun us s1 hPz=>L2.ep3 hPz fun vs H1 I1 r q=>⟨I1.kIn,?_⟩) he hpl;exact yP M F hr hb hd hx I1 r q
end
structure aB(N P:List Str)(sc:Scope):Prop where
 kind:sc.kind=.function
 co:sc.isCoroutine=false
 gen:sc.isGenerator=false
 nd:N.Nodup
 pre:N.take P.length=P
 par:∀x∈P,sc.names.lookup x=some .local\/sc.names.lookup x=some .cell
 nofree:∀y∈sc.names,y.2≠ .free
theorem qQ{kindOf:Str->Option NameKind}{x:Str}:∀{binds:List (Str×Value)}{m:Str->Option Value},(∀v,(x,v)∉binds)->bindL kindOf binds m x=m x
 | [],_,_=>rfl
 |(n,v)::r,m,h=>by
  unfold bindL;rw[qQ fun w hw=>h w (Ft _ hw)];split
  ·have:x≠n:=(by rintro rfl;exact h v Fw);simp[this]
  ·rfl
theorem qS{kindOf:Str->Option NameKind}{x:Str}:∀{binds:List (Str×Value)}{m:Str->Option Value},(∀v,(x,v)∉binds)->bindC kindOf binds m x=m x
 | [],_,_=>rfl
 |(n,v)::r,m,h=>by
  unfold bindC;rw[qS fun w hw=>h w (Ft _ hw)];split
  ·rfl
  ·have:x≠n:=(by rintro rfl;exact h v Fw);simp[this]
theorem qR{kindOf:Str->Option NameKind}{x:Str}{v:Value}:∀{P:List Str}{vs:List Value}{i:Nat}{m:Str->Option Value},P.Nodup->P[i]?=some x->vs[i]?=some v->kindOf x=some .local->
  bindL kindOf (P.zip vs) m x=some v
 | [],_,_,_,_,h,_,_=>by simp at h
 |_::_,[],_,_,_,_,h,_=>by simp at h
 |p::P,w::vs,0,m,nd,h1,h2,hk=>by simp at h1 h2;subst h1;subst h2;show bindL kindOf ((p,w)::P.zip vs) m p=_;unfold bindL;rw[qQ fun v hv=>(Gv.mp nd).1 (List.of_mem_zip hv).1,FH hk];simp
 |p::P,w::vs,i+1,m,nd,h1,h2,hk=>by show bindL kindOf ((p,w)::P.zip vs) m x=_;unfold bindL;exact qR (i:=i) (Gv.mp nd).2 (by simpa using h1) (by simpa using h2) hk
theorem qT{kindOf:Str->Option NameKind}{x:Str}{v:Value}:∀{P:List Str}{vs:List Value}{i:Nat}{m:Str->Option Value},P.Nodup->P[i]?=some x->vs[i]?=some v->kindOf x≠some .local->
  bindC kindOf (P.zip vs) m x=some v
 | [],_,_,_,_,h,_,_=>by simp at h
 |_::_,[],_,_,_,_,h,_=>by simp at h
 |p::P,w::vs,0,m,nd,h1,h2,hk=>by simp at h1 h2;subst h1;subst h2;show bindC kindOf ((p,w)::P.zip vs) m p=_;unfold bindC;rw[qS fun v hv=>(Gv.mp nd).1 (List.of_mem_zip hv).1,FA hk];simp
 |p::P,w::vs,i+1,m,nd,h1,h2,hk=>by show bindC kindOf ((p,w)::P.zip vs) m x=_;unfold bindC;exact qT (i:=i) (Gv.mp nd).2 (by simpa using h1) (by simpa using h2) hk
noncomputable def start(N:List Str)(vs:List V):St:=vs.map some++List.replicate (N.length-vs.length) none
noncomputable def gN(CX:CXT)(P:Program)(w:World)(K:Frag)(mg:Str->Option Value)(base:Heap)(N:List Str)(qual:Str)(scope:Scope)(f:Addr)(cd:Value)(A:Around)(outer:List Env)(s:Shared)(H:Hp)(E:XK):Cx where
 prog:=P
 w:=w
 K:=K
 mg:=mg
 base:=base
 A:=A.deeper (envOfC qual scope s.heap.objs.size f cd)
 N:=N
 s₀:=s
 H₀:=H
 env:=envOfC qual scope s.heap.objs.size f cd
 outer:=outer
 stack:=envOfC qual scope s.heap.objs.size f cd::outer
 ex:=[]
 calm:=true
 fn:=fun _=>true
 pn:=[]
 xe:=fun e s'=>wpAny (model P w) (A.deeper (envOfC qual scope s.heap.objs.size f cd)) (leaving (envOfC qual scope s.heap.objs.size f cd) e) (fun _ s''=>CX outer H s E e s'') (fun e' s''=>CX outer H s E e' s'') s'
theorem uG{sc:Scope}{n:Nat}{x:Str}(h:sc.names.lookup x=some .cell):∃c,(cellsFrom n sc.names []).lookup x=some c:=by have q:=PySem.W.cellsFrom_some sc.names n [] (.inl h);exact Option.isSome_iff_exists.mp q
theorem xZ{CX:CXT}{P:Program}{w:World}{K:Frag}{mg:Str->Option Value}{base:Heap}{N ps:List Str}{qual:Str}{scope:Scope}{f:Addr}{cd:Value}{A:Around}{outer:List Env}{s s1:Shared}{H:Hp}{E:XK}{us:List Value}{vs:List V}
  (S:aB N ps scope) (hd:A.handled=none) (e0:qk P w K mg base A outer s H) (hl:vs.length=ps.length) (r:Vals vs us)
  (x:InCallC s s.heap.objs.size (bindL (envOfC qual scope s.heap.objs.size f cd).kindOf (ps.zip us) fun _=>none) (cellsFrom (s.heap.objs.size+1) scope.names []) (bindC (envOfC qual scope s.heap.objs.size f cd).kindOf (ps.zip us) fun _=>none) s1):
  Inv (gN CX P w K mg base N qual scope f cd A outer s H E) [] (start N vs) H s1:=by
 have hpl:ps.length<=N.length:=by have:=congrArg List.length S.pre;rw[FK]at this;lia
 obtain⟨h1,tk,rfl,hk⟩:=x.done;have noA:∀b:Addr,b∉(gN CX P w K mg base N qual scope f cd A outer s H E).ex:=fun b z=>absurd (show b∈([]:List Addr)from z) (by simp)
 refine⟨⟨e0.mod,S.kind,rfl,rfl,Fv _,fun y z c h1 h2=>?_,fun y hy=>?_,fun y c _ h=>?_,fun _=>hd,Around.frames_deeper e0.frames,.inr ⟨rfl,rfl⟩,fun b z=>absurd z (noA b),e0.bs,e0.bsz,fun b _ _=>noA b,fun b z=>absurd z (noA b),e0.funs,e0.frf⟩,
  rfl,e0.bare,Un.kept hk,⟨_,x.toInCall.ns,fun i y v h1 h2 h3=>?_⟩,fun y c h=>⟨_,x.cell y c h⟩,e0.hok.fresh (Fv _),fun y c h=>?_,fun p hp=>absurd (show p∈([]:List (Addr×Obj))from hp) (by simp),e0.hok.kept hk,?_⟩
 ·exact name_of_addr x.apart (PySem.mem_of_lookup h1) (PySem.mem_of_lookup h2)
 ·have hy:scope.names.lookup y=some .cell\/scope.names.lookup y=some .free:=hy;rcases hy with hy|hy
  ·exact uG hy
  ·exact absurd rfl (S.nofree _ (PySem.mem_of_lookup hy))
 ·exact Nat.le_of_lt (x.above y c (PySem.mem_of_lookup h))
 ·have hi:i<vs.length:=by
   unfold start at h2;by_cases hi:i<vs.length
   ·exact hi
   ·rw[List.getElem?_append_right (by simpa using hi)]at h2;rw[List.getElem?_replicate]at h2;split at h2<;>cases h2
  have ha:vs[i]?=some v:=by
   unfold start at h2;rw[List.getElem?_append_left (by simpa using hi),FO]at h2;cases e:vs[i]? with
   |none=>rw[e]at h2;cases h2
   |some a=>rw[e]at h2;cases h2;rfl
  obtain⟨u,hu,rv⟩:=r.get ha;have hp:ps[i]?=some y:=by rw[<-S.pre,List.getElem?_take_of_lt (by lia)];exact h1
  have ndP:ps.Nodup:=by rw[<-S.pre];exact S.nd.sublist (List.take_sublist _ _)
  refine⟨u,rv,?_⟩;rcases S.par y (Fs hp)with k|k
  ·exact .inl ⟨k,qR ndP hp hu k⟩
  ·obtain⟨c,e⟩:=uG (n:=s.heap.objs.size+1) k;refine .inr ⟨.inl k,c,e,?_⟩;have q:=x.cell y c e;rw[qT ndP hp hu (by show scope.names.lookup y≠_;rw[k];decide)]at q;exact q
 ·exact e0.hok.fresh (Nat.le_of_lt (x.above y c (PySem.mem_of_lookup h)))
 ·unfold start;show _=N.length;rw[Fz,Fm,List.length_replicate]
  lia
theorem wR{CX:CXT}{P:Program}{w:World}{K:Frag}{mg:Str->Option Value}{base:Heap}{k:Nat}{f:Addr}{name qual:Str}{params:Arguments}{body:List Stmt}{scope:Scope}{dV kV doc pm cdv ct oc:Value}{an od:Option Addr}
  {osl:Array (Option Value)} {N ps:List Str} {sp:Sp} (lk:K.lookup f=some ⟨oc,od,.func (fnOf name qual params body scope dV kV doc pm an cdv ct),osl⟩) (hcd:codeIn K cdv qual=true) (S:aB N ps scope)
  (len:∀vs H Q E,sp vs H Q E->vs.length=ps.length)
  (hbody:∀(A:Around)(outer:List Env)(s:Shared)(H:Hp)(vs:List V)(Q:VK)(E:XK),cA k (A.deeper (envOfC qual scope s.heap.objs.size f cdv))->sp vs H Q E->
   ∃t,PSs (gN CX P w K mg base N qual scope f cdv A outer s H E) body t/\t {nx:=fun _ H'=>Q .non H',rt:=Q} (start N vs) H):
  gK P w K mg base CX (k+1) f (fnOf name qual params body scope dV kV doc pm an cdv ct) ps sp:=by
 refine⟨len,fun A outer s H args us vs Q E hr e0 hb r hsp=>?_⟩;have hl:=len _ _ _ _ hsp;have KX:K.In s.heap:=e0.mod.kin.keeps fun b o e=>(e0.bs b o e).1;have lim:s.heap.NoLimit:=e0.mod.nolimit.keeps fun b o e=>(e0.bs b o e).1;have hkind:∀y∈ps.zip us,scope.names.lookup y.1=some .local\/(scope.names.lookup y.1=some .cell/\((cellsFrom (s.heap.objs.size+1) scope.names []).lookup y.1).isSome=true):=fun⟨n,v⟩ hy=>by
  rcases S.par n (List.of_mem_zip hy).1 with q|q
  ·exact .inl q
  ·exact .inr ⟨q,PySem.W.cellsFrom_some _ _ _ (.inl q)⟩
 refine codeAny_call_function hr.depth (KX _ _ lk) rfl S.co S.gen rfl (PySem.W.codeRec_of KX hcd) (hb _ _ _ _ ?_);refine wpAny_newFunctionEnv_cells S.kind hkind fun env he s1 x=>?_;subst he;refine⟨lim.keeps x.toInCall.keep,codeAny_func ?_⟩;obtain⟨t,ht,hq⟩:=hbody A outer s H vs Q E (hr.deeper _) hsp;have I:Inv (gN CX P w K mg base N qual scope f cdv A outer s H E) [] (start N vs) H s1:=xZ S hr.hd e0 hl r x;refine F8 (ht [] s1 (start N vs) H _ I hq) (fun fl s' hs=>?_) fun e s' hs=>hs;have fin:∀{σ':St}{H':Hp}{v:V}{u:Value},Inv (gN CX P w K mg base N qual scope f cdv A outer s H E) [] σ' H' s'->RelV v u->Q v H'->CE outer P w H s Q u s':=
  fun {σ' H' v u} J rv q=>⟨v,H',J.os,J.bare,J.base,J.hok,rv,q⟩
 cases fl with
 |ret u=>obtain⟨v,σ',H',J,rv,q⟩:=hs;exact fin J rv q
 |next=>obtain⟨σ',H',J,q⟩:=hs;exact fin (v:=V.non) (u:=Value.none) J rfl q
 |brk=>obtain⟨_,_,_,q⟩:=hs;exact False.elim q
 |cont=>obtain⟨_,_,_,q⟩:=hs;exact False.elim q
section
variable{X:Cx}{x:Str}{p pos:Pos}{e:Expr}{es:List Expr}{t:TA}{id T:String}{r:List V->Hp->VK->Prop}
def tCB(r:List V->Hp->VK->Prop)(t:TA):TE:=fun σ H Q=>t σ H fun vs H1=>r vs H1 Q
theorem aY(hc:fh X (.builtin id) r)(hg:Gl X x)(hm:X.mg x=none)(hv:bootBuiltins x=some (.builtin id))(ha:PA X (e::es) t)(hn:x≠"__name__":=by decide)(hdb:(x==("__debug__":Str))=false:=by decide)
  (he:starEach (e::es) X.env=(false,eval e X.env)::starEach es X.env:=by rfl) (hpl:(backTo pos (starEach es X.env)).any (·.1)=false:=by rfl):PE X (.Call (.Name x p) (e::es) [] pos) (tCB r t):=by
 intro pins s σ H Q I h;refine wpAny_Call_Name_kw (mM I hg hm hv ?_ hn hdb);exact PyProof.Rows.callWith_builtin1 (thn (ha pos pins s σ H _ I h) fun us s1 hPz=>L2.ep3 hPz fun vs H1 I1 r1 q1=>hc pins s1 σ H1 vs us Q I1 r1 q1) he hpl
theorem bU(hc:fh X (.type T) r)(hg:Gl X x)(hm:X.mg x=none)(hv:bootBuiltins x=some (.type T))(ha:PA X (e::es) t)(hn:x≠"__name__":=by decide)(hdb:(x==("__debug__":Str))=false:=by decide)
  (he:starEach (e::es) X.env=(false,eval e X.env)::starEach es X.env:=by rfl) (hpl:(backTo pos (starEach es X.env)).any (·.1)=false:=by rfl):PE X (.Call (.Name x p) (e::es) [] pos) (tCB r t):=by
 intro pins s σ H Q I h;refine wpAny_Call_Name_kw (mM I hg hm hv ?_ hn hdb);exact PyProof.Rows.callWith_type1 (thn (ha pos pins s σ H _ I h) fun us s1 hPz=>L2.ep3 hPz fun vs H1 I1 r1 q1=>hc pins s1 σ H1 vs us Q I1 r1 q1) he hpl
end
end L2
namespace HT
open PySem PyProof.Rows
section
variable{prog:Program}{w:World}{A:Around}{E:Value->Shared->Prop}{s:Shared}
theorem BH{t b:Addr}{vs ws:List Value}{Q:Value->Shared->Prop}(ht:IsTup s.heap t vs.toArray)(hb:IsTup s.heap b ws.toArray)(hv:vs≠[])
  (h1:ws=[]->Q (.ref t) s) (h2:ws≠[]->Q (.ref s.heap.objs.size) {s with heap:=s.heap.push {cls:=.type "tuple",data:=.seq (vs++ws).toArray}})
  (hsz:vs.length+ws.length<=sizeLine):wpAny (model prog w) A (binaryOp .Add (.ref t) (.ref b)) Q E s:=by
 obtain⟨⟨cls,dd,data,sl⟩,ho,hc,n,hd⟩:=id ht;obtain⟨⟨cls2,dd2,data2,sl2⟩,ho2,hc2,n2,hd2⟩:=id hb;simp only at hc hd hc2 hd2;subst hc hd hc2 hd2;have e:vs.toArray++ws.toArray=(vs++ws).toArray:=by simp
 by_cases hw:ws=[]
 ·exact concat_meets ⟨_,ho,rfl⟩ ⟨_,ho2,rfl⟩ noFill_tuple_add seq_tuple_add PySem.F.slot_tuple_add PySem.F.entry_tuple_add (PySem.F.args_tuple_add_2 _ _)
   (tuple_addW1 t b vs.toArray ws.toArray n n2 dd dd2 sl sl2 (by simpa using hv) (by simp[hw])) ⟨ho,ho2,h1 hw⟩
 ·refine concat_meets ⟨_,ho,rfl⟩ ⟨_,ho2,rfl⟩ noFill_tuple_add seq_tuple_add PySem.F.slot_tuple_add PySem.F.entry_tuple_add (PySem.F.args_tuple_add_2 _ _)
   (tuple_addW2 t b vs.toArray ws.toArray n n2 dd dd2 sl sl2 (by simpa using hv) (by simpa using hw) (by rw[Fu,Fu];exact hsz)) ⟨ho,ho2,?_⟩
  rw[e];exact h2 hw
noncomputable def sIx(n d:Nat):Option Int->Nat
 |none=>d
 |some v=>if v<0 then(v+(n:Int)).toNat else min v.toNat n
theorem oE(n d:Nat):sIx n d none=d:=rfl
theorem iD(n d k:Nat):sIx n d (some (k:Int))=min k n:=by show(if(k:Int)<0 then((k:Int)+(n:Int)).toNat else min (k:Int).toNat n)=min k n;rw[FA (by lia),Gg]
theorem Cy(n d:Nat)(hd:d<=n)(o:Option Int):sIx n d o<=n:=by
 cases o with
 |none=>exact hd
 |some v=>
  show(if v<0 then(v+(n:Int)).toNat else min v.toNat n)<=n;by_cases hv:v<0
  ·rw[FH hv];lia
  ·rw[FA hv];exact Nat.min_le_right _ _
theorem w9(v:Int)(n d:Nat):(if v<0 then max (v+(n:Int)) 0 else min v (n:Int))=((sIx n d (some v):Nat):Int):=by
 show(if v<0 then max (v+(n:Int)) 0 else min v (n:Int))=(((if v<0 then(v+(n:Int)).toNat else min v.toNat n):Nat):Int);by_cases hv:v<0
 ·simp only[FH hv];lia
 ·simp only[FA hv];lia
theorem vR(lo hi:Option Int)(n:Nat):Builtin.Slice.sliceAdjust lo hi 1 (n:Int)=(((sIx n 0 lo:Nat):Int),((sIx n n hi:Nat):Int)):=by
 have h1:¬((1:Int)<0):=by lia
 unfold Builtin.Slice.sliceAdjust;simp only[h1,if_false];refine Prod.ext ?_ ?_
 ·cases lo with
  |none=>rfl
  |some v=>exact w9 v n 0
 ·cases hi with
  |none=>rfl
  |some v=>exact w9 v n n
theorem u5(i j:Nat):Builtin.Slice.slicePlaces (i:Int) (j:Int) 1=j-i:=by
 unfold Builtin.Slice.slicePlaces;have h1:(1:Int)>0:=by lia
 simp only[h1,if_true,Int.ediv_one];split<;>lia
theorem ow{v:Value}{o:Option Int}{Q:Option Int->Shared->Prop}(p:IsPart v o)(h:Q o s):wpAny (model prog w) A (Builtin.Slice.slicePartIndex v) Q E s:=by
 cases p with
 |none=>exact slicePart_none h
 |int i t=>exact slicePart_int h
theorem ie{sl:Addr}{vl vu:Value}{lo hi:Option Int}{n:Nat}{Q:Int×Int×Nat->Shared->Prop}(hs:s.heap.IsSliceOf sl vl vu .none)(pl:IsPart vl lo)(pu:IsPart vu hi)
  (h:Q (((sIx n 0 lo:Nat):Int),1,sIx n n hi-sIx n 0 lo) s):wpAny (model prog w) A (Builtin.Slice.sliceApplied (.ref sl) (pure (n:Int))) Q E s:=by
 obtain⟨os,hos,hcs,hds⟩:=id hs;unfold Builtin.Slice.sliceApplied Builtin.Slice.sliceFields;refine Fl (Fl (wpAny_field hos hds (x:=vl) rfl (Fl (wpAny_field hos hds (x:=vu) rfl (Fl (wpAny_field hos hds (x:=.none) rfl (Fo ?_)))))));refine Fl (slicePart_none ?_);show wpAny _ _ (if((1:Int)==0)=true then _ else _) _ _ s;rw[FA (by decide)];refine Fl (ow pl (Fl (ow pu (Fl (Fo ?_)))));show wpAny _ _ (match Builtin.Slice.sliceAdjust lo hi 1 (n:Int)with|(lo,hi)=>pure (lo,(1:Int),Builtin.Slice.slicePlaces lo hi 1)) _ _ s;rw[vR lo hi n];show wpAny _ _ (pure (((sIx n 0 lo:Nat):Int),(1:Int),Builtin.Slice.slicePlaces ((sIx n 0 lo:Nat):Int) ((sIx n n hi:Nat):Int) 1)) _ _ s;rw[u5];exact Fo h
theorem y0(xs:Array Value)(i k:Nat):((List.range k).filterMap fun(m:Nat)=>xs[((i:Int)+(m:Int)*1).toNat]?).toArray=((xs.toList.drop i).take k).toArray:=by
 have e:(fun(m:Nat)=>xs[((i:Int)+(m:Int)*1).toNat]?)=fun m=>xs[i+m]? :=by
  funext m;have:((i:Int)+(m:Int)*1).toNat=i+m:=by lia
  rw[this]
 rw[e];have:=pick_run xs i k;rw[List.filterMap_map]at this;have e2:((fun x=>xs[x]?) ∘ fun x=>i+x)=fun m=>xs[i+m]? :=rfl;rw[e2]at this;rw[this]
theorem lQ{t sl:Addr}{items:Array Value}{vl vu:Value}{lo hi:Option Int}{Q:Value->Shared->Prop}(ht:IsTup s.heap t items)(hs:s.heap.IsSliceOf sl vl vu .none)(pl:IsPart vl lo)(pu:IsPart vu hi)
  (hw:¬(sIx items.size 0 lo=0/\sIx items.size items.size hi=items.size))
  (h:Q (.ref s.heap.objs.size) {s with heap:=s.heap.push {cls:=.type "tuple",data:=.seq ((items.toList.drop (sIx items.size 0 lo)).take (sIx items.size items.size hi-sIx items.size 0 lo)).toArray}})
  (hsz:items.size<=sizeLine):wpAny (model prog w) A (getItem (.ref t) (.ref sl)) Q E s:=by
 have htake:sizeOk (.seq ((items.toList.drop (sIx items.size 0 lo)).take (sIx items.size items.size hi-sIx items.size 0 lo)).toArray):=by show((items.toList.drop (sIx items.size 0 lo)).take (sIx items.size items.size hi-sIx items.size 0 lo)).toArray.size<=sizeLine;rw[Fu,FK,GP,G1];omega
 have hj:sIx items.size items.size hi<=items.size:=Cy _ _ (Fv _) hi;obtain⟨os,hos,hcs,hds⟩:=id hs;have hTs:s.TypeIs (.ref sl) "slice":=⟨os,hos,hcs⟩;unfold getItem
 try with_reducible refine Gx ?_
 first|refine Fl (Fo ?_)|skip
 refine Fl (wpAny_sequenceKey ht.typeIs (by decide) ?_);refine Fl (GX (name:=Str.ofString "__getitem__") ht.typeIs GH (GG GH ht.typeIs entry_tuple_getitem ?_ (args_tuple_getitem _ _)));show wpAny _ _ (Builtin.Tuple.tupleItemsOf (.ref t)>>= _) _ _ s;refine Fl (tupleItemsOf_ ht ?_);refine Fl (wpAny_typeOf hTs ?_);rw[FH (by decide)];refine Fl (ie hs pl pu ?_);have hno:¬((((sIx items.size 0 lo:Nat):Int)==0&&(1:Int)==1&&(sIx items.size items.size hi-sIx items.size 0 lo)==items.size)=true):=by intro q;rw[Bool.and_eq_true,Bool.and_eq_true]at q;have q1:((sIx items.size 0 lo:Nat):Int)=0:=eq_of_beq q.1.1;have q2:sIx items.size items.size hi-sIx items.size 0 lo=items.size:=eq_of_beq q.2;exact hw ⟨by omega,by omega⟩
 show wpAny _ _ (if(((sIx items.size 0 lo:Nat):Int)==0&&(1:Int)==1&&(sIx items.size items.size hi-sIx items.size 0 lo)==items.size)=true then _ else _) _ _ s;rw[FA hno,y0]
 first
  |exact Fl (m:=Builtin.Tuple.tupleExact _) (Gp (Fo ⟨_,rfl,Fo h⟩) htake)
  |exact Fl (m:=Builtin.Tuple.tupleExact _) (Gp (Fl (Fo (Fo ⟨_,rfl,Fo h⟩))) htake)
  |exact Fl (Fl (m:=Builtin.Tuple.tupleExact _) (Gp (Fo (Fo ⟨_,rfl,Fo h⟩)) htake))
  |exact Fl (Fl (m:=Builtin.Tuple.tupleExact _) (Gp (Fo ⟨_,rfl,Fo h⟩) htake))
end
end HT
namespace L2
open PySem PySem.Spec PyProof.Rows
noncomputable abbrev TO:=St->Hp->(Option Int->Hp->Prop)->Prop
def PO(X:Cx)(e:Option Expr)(t:TO):Prop:=
 ∀(pins:List (Addr×Obj))(s:Shared)(σ:St)(H:Hp)(Q:Option Int->Hp->Prop),Inv X pins σ H s->t σ H Q->
  wpAny (model X.prog X.w) X.A (evalPart e X.env) (fun u s'=>∃o H',Inv X pins σ H' s'/\IsPart u o/\Q o H') X.xe s
noncomputable def AG:TO:=fun _ H Q=>Q none H
noncomputable def DP(t:TE):TO:=fun σ H Q=>t σ H fun x H1=>∃i,x=.int i/\Q (some i) H1
theorem intsAre_of{ns:List Int}:∀{us:List Value},Vals (ns.map V.int) us->IntsAre us ns:=by
 induction ns with
 |nil=>intro us r;rw[List.map_nil]at r;cases r;exact .nil
 |cons n ns ih=>
  intro us r;rw[FG]at r;cases r with
  |cons r1 r2=>obtain⟨t,e⟩:=r1;subst e;exact .cons n t (ih r2)
section
variable{X:Cx}{e:Expr}{te:TE}{lo hi:Option Expr}{tl th:TO}{pos p2:Pos}
theorem iF:PO X none AG:=by intro pins s σ H Q I h;rw[evalPart_none];exact Fo ⟨none,H,I,.none,h⟩
theorem dU(h:PE X e te):PO X (some e) (DP te):=by intro pins s σ H Q I hw;rw[evalPart_some];refine thn (h pins s σ H _ I hw) fun u s1 hPz=>?_;obtain⟨x,H1,I1,r1,q1⟩:=hPz;obtain⟨i,rfl,q⟩:=q1;obtain⟨t,rfl⟩:=r1;exact⟨some i,H1,I1,.int i t,q⟩
def SlR(X:Cx)(r:V->Option Int->Option Int->Hp->VK->Prop):Prop:=
 ∀(pins:List (Addr×Obj))(s:Shared)(σ:St)(H:Hp)(x:V)(v vl vu:Value)(lo hi:Option Int)(sl:Addr)(Q:VK),Inv X pins σ H s->RelV x v->s.heap.IsSliceOf sl vl vu .none->IsPart vl lo->IsPart vu hi->r x lo hi H Q->
  ∃T id,typeLookup (.type T) "__getitem__"=pure (some (.builtin id))/\s.TypeIs v T/\wpAny (model X.prog X.w) X.A (getItem v (.ref sl)) (EP X pins σ Q) X.xe s
def tSl(r:V->Option Int->Option Int->Hp->VK->Prop)(te:TE)(tl th:TO):TE:=fun σ H Q=>te σ H fun x H1=>tl σ H1 fun l H2=>th σ H2 fun u H3=>r x l u H3 Q
theorem d8{r:V->Option Int->Option Int->Hp->VK->Prop}(hr:SlR X r)(he:PE X e te)(hl:PO X lo tl)(hu:PO X hi th):PE X (.Subscript e (.Slice lo hi none p2) pos) (tSl r te tl th):=by intro pins s σ H Q I h;refine Subscript_ (thn (he pins s σ H _ I h) fun v s1 hPz=>?_);obtain⟨x,H1,I1,r1,q1⟩:=hPz;refine wpAny_Slice (thn (hl pins s1 σ H1 _ I1 q1) fun vl s2 hPz=>L2.ep3 hPz fun l H2 I2 pl q2=>thn (hu pins s2 σ H2 _ I2 q2) fun vu s3 hPz=>?_);obtain⟨u,H3,I3,pu,q3⟩:=hPz;rw[evalPart_none];refine Fo ?_;have I4:Inv X pins σ H3 {s3 with heap:=s3.heap.push {cls:=.type "slice",data:=.fields #[vl,vu,.none]}}:=I3.kept (t':=s3.toks) fun b ob q=>Fn _ q;obtain⟨T,id,hT,ht,hg⟩:=hr pins {s3 with heap:=s3.heap.push {cls:=.type "slice",data:=.fields #[vl,vu,.none]}} σ H3 x v vl vu l u s3.heap.objs.size Q I4 r1 (Heap.IsSliceOf.new ..) pl pu q3;show wpAny (model X.prog X.w) X.A (subscriptTail e (.Slice lo hi none p2) v (.ref s3.heap.objs.size)) (EP X pins σ Q) X.xe {s3 with heap:=s3.heap.push {cls:=.type "slice",data:=.fields #[vl,vu,.none]}};exact tail_any (ops:=[.ref s3.heap.objs.size,v]) ht hT hg (by with_unfolding_all rfl)
noncomputable def gO(xs:List V)(lo hi:Option Int):List V:=(xs.drop (HT.sIx xs.length 0 lo)).take (HT.sIx xs.length xs.length hi-HT.sIx xs.length 0 lo)
theorem nL(xs:List V)(lo hi:Option Int):(gO xs lo hi).length<=xs.length:=by unfold gO;rw[FK,GP];omega
def EW(K:Frag):V->Option Int->Option Int->Hp->VK->Prop:=fun x lo hi H Q=>∃a xs,x=.ref a/\SqT K H a xs/\
 ¬(HT.sIx xs.length 0 lo=0/\HT.sIx xs.length xs.length hi=xs.length)/\∀p,H p=none->Q (.ref p) (upd H p (.tup (gO xs lo hi)))
theorem Cu:SlR X (EW X.K):=by
 intro pins s σ H x v vl vu lo hi sl Q I rx hs pl pu h;obtain⟨a,xs,rfl,hx,hw,q⟩:=h;cases rx;obtain⟨its,r,ht,hz⟩:=I.tuple hx;have hlen:its.toArray.size=xs.length:=by rw[Fu];exact r.length.symm
 refine⟨"tuple",_,GH.lookup,ht.typeIs,?_⟩;refine HT.lQ ht hs pl pu (by rw[hlen];exact hw) ?_ (by rw[hlen];exact hz);rw[hlen];refine⟨.ref s.heap.objs.size,_,I.laid (t':=s.toks) (o:=.tup (gO xs lo hi)) (fun b ob q=>Fn _ q) (Fv _) ?_,rfl,q _ (I.hok.fresh (Fv _))⟩;exact⟨FW (nL xs lo hi) hz,_,(r.drop (HT.sIx xs.length 0 lo)).take (HT.sIx xs.length xs.length hi-HT.sIx xs.length 0 lo),IsTup.new _ _⟩
noncomputable def Ea(K:Frag):R2:=fun x y H Q=>∃a b xs ys,x=.ref a/\y=.ref b/\SqT K H a xs/\SqT K H b ys/\xs≠[]/\xs.length+ys.length<=sizeLine/\
 (ys=[]->Q (.ref a) H)/\(ys≠[]->∀p,H p=none->Q (.ref p) (upd H p (.tup (xs++ys))))
theorem Vals.nil_iff{xs:List V}{us:List Value}(r:Vals xs us):us=[]<->xs=[]:=by
 cases r with
 |nil=>simp
 |cons _ _=>simp
theorem Bc:OpR X (binaryOp .Add) (Ea X.K):=by intro pins s σ H x y v u Q I rx ry h;obtain⟨a,b,xs,ys,rfl,rfl,ha,hb,hx,hz,q1,q2⟩:=h;cases rx;cases ry;obtain⟨its,r1,p1,_⟩:=I.tuple ha;obtain⟨its2,r2,p2,_⟩:=I.tuple hb;refine HT.BH p1 p2 (fun z=>hx (r1.nil_iff.mp z)) (fun z=>⟨.ref a,H,I,rfl,q1 (r2.nil_iff.mp z)⟩) (fun z=>?_) (by rw[<-r1.length,<-r2.length];exact hz);refine⟨.ref s.heap.objs.size,_,I.laid (t':=s.toks) (o:=.tup (xs++ys)) (fun b ob q=>Fn _ q) (Fv _) ?_,rfl,q2 (fun w=>z (r2.nil_iff.mpr w)) _ (I.hok.fresh (Fv _))⟩;exact⟨by rw[Fz];exact hz,_,r1.append r2,IsTup.new _ _⟩
end
noncomputable def ixN(n:Nat)(i:Int):Option Nat:=if 0<=i then(if i<n then some i.toNat else none)else if-(n:Int)<=i then some (i+n).toNat else none
noncomputable def atI{α:Type}(xs:List α)(i:Int):Option α:=(ixN xs.length i).bind fun j=>xs[j]?
theorem wI{n:Nat}{i:Int}{j:Nat}(h:ixN n i=some j):seqIndex? i n=some j/\j<n/\ -(n:Int)<=i/\i<n:=by
 unfold ixN at h;by_cases h0:0<=i
 ·rw[FH h0]at h;by_cases h1:i<n
  ·rw[FH h1]at h;have e:i.toNat=j:=F0 h;exact⟨by rw[seqIndex_of h0 h1,e],by omega,by lia,h1⟩
  ·rw[FA h1]at h;cases h
 ·rw[FA h0]at h;by_cases h1: -(n:Int)<=i
  ·rw[FH h1]at h;have e:(i+n).toNat=j:=F0 h;exact⟨by rw[seqIndex_neg (by lia) h1,e],by lia,h1,by lia⟩
  ·rw[FA h1]at h;cases h
theorem tq{α:Type}{xs:List α}{i:Int}{v:α}(h:atI xs i=some v):∃j,seqIndex? i xs.length=some j/\xs[j]?=some v/\j<xs.length/\ -(xs.length:Int)<=i/\i<xs.length:=by
 unfold atI at h;cases e:ixN xs.length i with
 |none=>rw[e]at h;cases h
 |some j=>rw[e]at h;obtain⟨h1,h2,h3,h4⟩:=wI e;exact⟨j,h1,h,h2,h3,h4⟩
theorem az{α:Type}{xs:List α}{j:Nat}{v:α}(h:xs[j]?=some v):atI xs (j:Int)=some v:=by
 have hj:j<xs.length:=(FD.mp h).1;have e:ixN xs.length (j:Int)=some j:=by unfold ixN;rw[FH (by lia),FH (by lia)];simp
 unfold atI;rw[e];exact h
def BP(b:Expr):Prop:=∀o i,subscripted b false o i=operate [o,i] (getItem o i)
def IxR(X:Cx)(r:R2):Prop:=
 ∀(value slice:Expr)(pins:List (Addr×Obj))(s:Shared)(σ:St)(H:Hp)(x y:V)(v u:Value)(Q:VK),Inv X pins σ H s->RelV x v->RelV y u->r x y H Q->
  subscripted slice false v u=operate [v,u] (getItem v u)->wpAny (model X.prog X.w) X.A (subscriptTail value slice v u) (EP X pins σ Q) X.xe s
def MtR(X:Cx)(id:String)(r:V->List V->Hp->VK->Prop):Prop:=
 ∀(pins:List (Addr×Obj))(s:Shared)(σ:St)(H:Hp)(x:V)(xs:List V)(v:Value)(us:List Value)(Q:VK),Inv X pins σ H s->RelV x v->Vals xs us->r x xs H Q->
  wpAny (model X.prog X.w) X.A (call (.builtin id) (v::us)) (EP X pins σ Q) X.xe s
section
variable{X:Cx}{a b:Expr}{ta tb:TE}{pos:Pos}
theorem aJ{r:R2}(hr:IxR X r)(ha:PE X a ta)(hb:PE X b tb)(hs:BP b):PE X (.Subscript a b pos) (tOp r ta tb):=by intro pins s σ H Q I h;exact Subscript_ (Dx ha hb I h fun v u s2 x y H2 I2 rx ry q=>hr a b pins s2 σ H2 x y v u Q I2 rx ry q (hs _ _))
noncomputable def D6(K:Frag):R2:=fun x y H Q=>∃p xs i v,x=.ref p/\y=.int i/\SqL K H p xs/\atI xs i=some v/\Q v H
noncomputable def D5(K:Frag):R2:=fun x y H Q=>∃p xs i v,x=.ref p/\y=.int i/\SqT K H p xs/\atI xs i=some v/\Q v H
noncomputable def E2:R2:=fun x y H Q=>∃z i c,x=.str z/\y=.int i/\z.length<=sizeLine/\atI z.cps.toList i=some c/\Q (.str ⟨#[c]⟩) H
theorem bV:IxR X (D6 X.K):=by
 intro value slice pins s σ H x y v u Q I rx ry h hs;obtain⟨p,xs,i,z,rfl,rfl,hq,he,q⟩:=h;cases rx;obtain⟨t,rfl⟩:=ry;obtain⟨its,r,pl,hz⟩:=I.list hq;obtain⟨j,h1,h2,h3,h4,h5⟩:=tq he;obtain⟨w,ew,rw'⟩:=r.get h2;have hl:=r.length;have hn:=oY;have fin:EP X pins σ Q w s:=⟨z,H,I,rw',q⟩;by_cases h0:0<=i
 ·have hj:i.toNat=j:=by
   rw[seqIndex_of h0 h5]at h1;exact F0 h1
  exact item_listR pl.isList h0 (by lia) (by rw[hj];simpa using ew) fin hs
 ·have hj:(i+(its.toArray.size:Int)).toNat=j:=by
   rw[seqIndex_neg (by lia) h4]at h1;rw[Fu,<-hl];exact F0 h1
  exact subscriptTail_builtinR (x:=w) pl.isList.typeIs slot_list_getitem.lookup
   (wpAny_getItem_list_neg (Q:=fun r s'=>r=w/\EP X pins σ Q r s') pl.isList (by omega) (by rw[Fu]<;>lia) (by lia) (by rw[hj];simpa using ew) ⟨rfl,fin⟩) hs
theorem aO:IxR X (D5 X.K):=by
 intro value slice pins s σ H x y v u Q I rx ry h hs;obtain⟨p,xs,i,z,rfl,rfl,hq,he,q⟩:=h;cases rx;obtain⟨t,rfl⟩:=ry;obtain⟨its,r,pl,hz⟩:=I.tuple hq;obtain⟨j,h1,h2,h3,h4,h5⟩:=tq he;obtain⟨w,ew,rw'⟩:=r.get h2;have hl:=r.length;have hn:=oY;have fin:EP X pins σ Q w s:=⟨z,H,I,rw',q⟩;exact subscriptTail_builtinR (x:=w) pl.typeIs slot_tuple_getitem.lookup
  (getItem_tuple (j:=j) (Q:=fun r s'=>r=w/\EP X pins σ Q r s') pl (by omega) (by omega) (by rw[Fu,<-hl];exact h1) (by simpa using ew) ⟨rfl,fin⟩) hs
theorem Dg:IxR X E2:=by
 intro value slice pins s σ H x y v u Q I rx ry h hs;obtain⟨z,i,c,rfl,rfl,hz,he,q⟩:=h;obtain⟨t,rfl⟩:=rx;obtain⟨t',rfl⟩:=ry;obtain⟨j,h1,h2,h3,h4,h5⟩:=tq he;have hl:z.cps.toList.length=z.length:=by simp[Str.length]
 rw[hl]at h1 h4 h5;have hn:=oY
 exact tail_any (typeIs_str s z t) slot_str_getitem.lookup (getItem_str (c:=c) (by
  have e1:decide (i< -(2^63:Int))=false:=FY (by lia);have e2:decide (i>=2^63)=false:=FY (by lia)
  rw[e1,e2,Bool.or_false]) (by rw[h1];simpa using h2) ⟨.str ⟨#[c]⟩,H,I.tok _,⟨_,rfl⟩,q⟩) hs
theorem vn(its:List Value)(n j:Nat)(u:Value):Obj.mapSeq (·.setIfInBounds j u) {cls:=.type "list",data:=.seq its.toArray n}={cls:=.type "list",data:=.seq (its.set j u).toArray n}:=by simp[Obj.mapSeq]
theorem Inv.lst{pins:List (Addr×Obj)}{σ:St}{H:Hp}{s:Shared}{p:Addr}{xs:List V}(I:Inv X pins σ H s)(h:H p=some (.lst xs)):
  ∃(its:List Value)(n:Nat),Vals xs its/\s.heap.get? p=some {cls:=.type "list",data:=.seq its.toArray n}/\xs.length<=sizeLine:=by
 obtain⟨z,its,n,r,e⟩:=I.hok p _ h;exact⟨its,n,r,e,z⟩
theorem Inv.lstUpd{pins:List (Addr×Obj)}{σ:St}{H:Hp}{s:Shared}{p:Addr}{xs ys:List V}{its its':List Value}{n n':Nat}{f:Obj->Obj}(I:Inv X pins σ H s)(h:H p=some (.lst xs))
  (ho:s.heap.get? p=some {cls:=.type "list",data:=.seq its.toArray n}) (hf:f {cls:=.type "list",data:=.seq its.toArray n}={cls:=.type "list",data:=.seq its'.toArray n'}) (r:Vals ys its') (hz:ys.length<=sizeLine) (t:Nat):
  Inv X pins σ (upd H p (.lst ys)) {s with heap:=s.heap.update p f,toks:=t}:=by
 have e:(s.heap.update p f).get? p=some {cls:=.type "list",data:=.seq its'.toArray n'}:=by rw[GF f ho (by rw[hf]<;>rfl),hf]
 refine I.write (x:=p) (e:=p) (by rw[h];trivial) (.inl rfl) (fun b u hb q=>(GL _ _ (GR hb)).trans q) ⟨_,e⟩ ?_;exact⟨hz,its',n',r,e⟩
def D4:V->V->V->Hp->(Hp->Prop)->Prop:=fun o i v H Q=>∃p xs k j,o=.ref p/\i=.int k/\H p=some (.lst xs)/\ixN xs.length k=some j/\Q (upd H p (.lst (xs.set j v)))
theorem set_list:EB X D4:=by
 intro pins s σ H o i v ov iv u Q I ro ri rv h;obtain⟨p,xs,k,j,rfl,rfl,hp,hj,q⟩:=h;cases ro;obtain⟨t,rfl⟩:=ri;obtain⟨its,n,r,ho,hz⟩:=I.lst hp;obtain⟨h1,h2,h3,h4⟩:=wI hj;have hl:=r.length;have hn:=oY;have I':Inv X pins σ (upd H p (.lst (xs.set j v))) {s with heap:=s.heap.update p (Obj.mapSeq (·.setIfInBounds j u))}:=
  I.lstUpd hp ho (vn its n j u) (r.set rv j) (by rw[List.length_set];exact hz) s.toks
 by_cases h0:0<=k
 ·have hk:k.toNat=j:=by
   rw[seqIndex_of h0 h4]at h1;exact F0 h1
  exact PySem.W.ki_setAt ho h0 (by omega) (by rw[Fu,<-hl];exact h4) (by rw[hk];exact⟨_,I',q⟩)
 ·have hk:(k+(its.toArray.size:Int)).toNat=j:=by
   rw[seqIndex_neg (by omega) h3]at h1;rw[Fu,<-hl];exact F0 h1
  exact PySem.W.ki_setBack ho (by omega) (by rw[Fu,<-hl];exact h3) (by omega) (by rw[hk];exact⟨_,I',q⟩)
theorem rl(lo hi:Option Int)(n:Nat):(sliceBounds lo hi none n).1=((HT.sIx n 0 lo:Nat):Int)/\(sliceBounds lo hi none n).2.1=((HT.sIx n n hi:Nat):Int)/\(sliceBounds lo hi none n).2.2=1:=by
 refine⟨?_,?_,rfl⟩
 ·cases lo with
  |none=>simp[sliceBounds,HT.sIx]
  |some i=>
   simp only[sliceBounds,HT.sIx,Option.getD_none,show(1:Int)>0 by decide,if_true];by_cases h:i<0
   ·simp only[h,if_true]<;>lia
   ·simp only[h,if_false]<;>lia
 ·cases hi with
  |none=>simp[sliceBounds,HT.sIx]
  |some i=>
   simp only[sliceBounds,HT.sIx,Option.getD_none,show(1:Int)>0 by decide,if_true];by_cases h:i<0
   ·simp only[h,if_true]<;>omega
   ·simp only[h,if_false]<;>omega
theorem pV(its:List Value)(lo hi:Option Int):slicePick its.toArray lo hi none=((its.drop (HT.sIx its.length 0 lo)).take (HT.sIx its.length its.length hi-HT.sIx its.length 0 lo)).toArray:=by obtain⟨h1,h2,h3⟩:=rl lo hi its.toArray.size;unfold slicePick;rw[h1,h2,h3];simp only[sliceRange_one,pick_run,Fu]<;>rfl
def EX(K:Frag):V->Option Int->Option Int->Hp->VK->Prop:=fun x lo hi H Q=>∃a xs,x=.ref a/\SqL K H a xs/\∀p,H p=none->Q (.ref p) (upd H p (.lst (gO xs lo hi)))
theorem AQ:SlR X (EX X.K):=by intro pins s σ H x v vl vu lo hi sl Q I rx hs pl pu h;obtain⟨a,xs,rfl,hx,q⟩:=h;cases rx;obtain⟨its,r,ht,hz⟩:=I.list hx;have hlen:=r.length;refine⟨"list",_,slot_list_getitem.lookup,ht.isList.typeIs,?_⟩;refine wpAny_getItem_list_slice ht.isList hs pl pu .none (by simp) ?_ (by rw[Fu]<;>lia);rw[pV,<-hlen];refine⟨.ref s.heap.objs.size,_,I.laid (t':=s.toks) (o:=.lst (gO xs lo hi)) (fun b ob q=>Fn _ q) (Fv _) ?_,rfl,q _ (I.hok.fresh (Fv _))⟩;exact⟨FW (nL xs lo hi) hz,_,0,(r.drop (HT.sIx xs.length 0 lo)).take (HT.sIx xs.length xs.length hi-HT.sIx xs.length 0 lo),FT _ rfl⟩
noncomputable def nK:V->Bool
 | .non=>true
 | .bl _=>true
 | .int _=>true
 | .str _=>true
 |_=>false
noncomputable def eqV:V->V->Bool
 | .non,.non=>true
 | .bl a,.bl b=>a==b
 | .bl a,.int b=>(if a then 1 else 0)==b
 | .int a,.bl b=>a==(if b then 1 else 0)
 | .int a,.int b=>a==b
 | .str a,.str b=>a==b
 |_,_=>false
theorem Dn{A:Around}{s:Shared}{y x:V}{u v:Value}(ry:RelV y u)(rx:RelV x v)(fy:nK y=true)(fx:nK x=true):SeqAt.EqAt A s u v (eqV y x):=by
 cases y with
 |non=>
  cases ry;cases x with
  |non=>cases rx;exact SeqAt.EqAt.same _
  |bl b=>cases rx;exact SeqAt.EqAt.none_bool b
  |int b=>obtain⟨t,rfl⟩:=rx;exact SeqAt.EqAt.none_int b t
  |str b=>obtain⟨t,rfl⟩:=rx;exact SeqAt.EqAt.none_str b t
  |_=>exact absurd (show false=true from fx) FP
 |bl a=>
  cases ry;cases x with
  |non=>cases rx;exact SeqAt.EqAt.bool_none a
  |bl b=>cases rx;exact SeqAt.EqAt.bool_bool a b
  |int b=>obtain⟨t,rfl⟩:=rx;exact SeqAt.EqAt.bool_int a b t
  |str b=>obtain⟨t,rfl⟩:=rx;exact SeqAt.EqAt.bool_str a b t
  |_=>exact absurd (show false=true from fx) FP
 |int a=>
  obtain⟨t',rfl⟩:=ry;cases x with
  |non=>cases rx;exact SeqAt.EqAt.int_none a t'
  |bl b=>cases rx;exact SeqAt.EqAt.int_bool a t' b
  |int b=>obtain⟨t,rfl⟩:=rx;exact SeqAt.EqAt.int_int a t' b t
  |str b=>obtain⟨t,rfl⟩:=rx;exact SeqAt.EqAt.int_str a t' b t
  |_=>exact absurd (show false=true from fx) FP
 |str a=>
  obtain⟨t',rfl⟩:=ry;cases x with
  |non=>cases rx;exact SeqAt.EqAt.str_none a t'
  |bl b=>cases rx;exact SeqAt.EqAt.str_bool a t' b
  |int b=>obtain⟨t,rfl⟩:=rx;exact SeqAt.EqAt.str_int a t' b t
  |str b=>obtain⟨t,rfl⟩:=rx;exact SeqAt.EqAt.str_str a t' b t
  |_=>exact absurd (show false=true from fx) FP
 |_=>exact absurd (show false=true from fy) FP
noncomputable def eqU(x:V)(u:Value):Bool:=match u with
 | .none=>eqV .non x
 | .bool b=>eqV (.bl b) x
 | .int i _=>eqV (.int i) x
 | .str z _=>eqV (.str z) x
 |_=>false
theorem zP{x y:V}{u:Value}(r:RelV y u)(f:nK y=true):eqU x u=eqV y x:=by
 cases y with
 |non=>cases r;rfl
 |bl b=>cases r;rfl
 |int i=>obtain⟨t,rfl⟩:=r;rfl
 |str z=>obtain⟨t,rfl⟩:=r;rfl
 |_=>exact absurd (show false=true from f) FP
theorem tu{x:V}:∀{xs:List V}{us:List Value},Vals xs us->xs.all nK=true->us.any (eqU x)=xs.any fun y=>eqV y x
 |_,_,.nil,_=>rfl
 |y::xs,u::us,.cons r t,f=>by rw[List.all_cons,Bool.and_eq_true]at f;rw[GQ,GQ,zP r f.1,tu t f.2]
theorem oX{A:Around}{s:Shared}{x:V}{v:Value}(rx:RelV x v)(fx:nK x=true):∀{xs:List V}{us:List Value},Vals xs us->xs.all nK=true->∀u∈us,SeqAt.EqAt A s u v (eqU x u)
 |_,_,.nil,_=>fun u hu=>by cases hu
 |y::xs,u::us,.cons r t,f=>fun u' hu=>by
  rw[List.all_cons,Bool.and_eq_true]at f;rcases FL.mp hu with rfl|hu
  ·rw[zP r f.1];exact Dn r rx f.1 fx
  ·exact oX rx fx t f.2 u' hu
noncomputable def inV(x:V)(xs:List V):Bool:=xs.any fun y=>eqV y x
noncomputable def rIn(K:Frag)(neg:Bool):R2:=fun x y H Q=>∃p xs,y=.ref p/\(SqL K H p xs\/SqT K H p xs)/\nK x=true/\xs.all nK=true/\Q (.bl (if neg then !inV x xs else inV x xs)) H
theorem qG:OpR X (compareOp .In) (rIn X.K false):=by
 intro pins s σ H x y v u Q I rx ry h;obtain⟨p,xs,rfl,hq,fx,fs,q⟩:=h;cases ry;rcases hq with hq|hq
 ·obtain⟨its,r,pl,hz⟩:=I.list hq;refine SeqAt.in_listAt (eqU x) pl.isList (fun w hw=>oX rx fx r fs w (by simpa using hw)) ⟨.bl _,H,I,rfl,?_⟩;rw[show its.toArray.any (eqU x)=its.any (eqU x) by simp,tu r fs];exact q
 ·obtain⟨its,r,pl,hz⟩:=I.tuple hq;refine SeqAt.in_tupleAt (eqU x) pl (fun w hw=>oX rx fx r fs w (by simpa using hw)) ⟨.bl _,H,I,rfl,?_⟩;rw[show its.toArray.any (eqU x)=its.any (eqU x) by simp,tu r fs];exact q
theorem bO:fh X (.builtin "len") (fun xs H Q=>∃p ys,xs=[.ref p]/\(SqL X.K H p ys\/SqT X.K H p ys)/\Q (.int ys.length) H):=by
 intro pins s σ H xs us Q I r h;obtain⟨p,ys,rfl,hq,q⟩:=h;obtain⟨u,rfl,rx⟩:=vals1 r;cases rx;have hn:=oY;rcases hq with hq|hq
 ·obtain⟨its,r',pl,hz⟩:=I.list hq;have hlen:=r'.length;exact Calls.call_len_list pl.isList (by simp only[Fu]<;>lia) ⟨.int ys.length,H,I.tok _,⟨s.toks+1,by rw[Fu,hlen]⟩,q⟩
 ·obtain⟨its,r',pl,hz⟩:=I.tuple hq;have hlen:=r'.length;exact len_tuple pl (by simp only[Fu]<;>omega) ⟨.int ys.length,H,I.tok _,⟨s.toks+1,by rw[Fu,hlen]⟩,q⟩
theorem sY:fh X (.type "list") (fun xs H Q=>∃p ys,xs=[.ref p]/\(SqL X.K H p ys\/SqT X.K H p ys)/\∀l,H l=none->Q (.ref l) (upd H l (.lst ys))):=by
 intro pins s σ H xs us Q I r h;obtain⟨p,ys,rfl,hq,q⟩:=h;obtain⟨u,rfl,rx⟩:=vals1 r;cases rx;have fin:∀(its:List Value),Vals ys its->ys.length<=sizeLine->∀(h':Heap)(c':Nat),(∀b o',s.heap.get? b=some o'->h'.get? b=some o')->
   h'.get? s.heap.objs.size=some {cls:=.type "list",dict:=none,data:=.seq its.toArray c',slots:= #[]}->EP X pins σ Q (.ref s.heap.objs.size) {s with heap:=h'}:=fun its r' hz h' c' kp e=>
  ⟨.ref s.heap.objs.size,_,I.laid (t':=s.toks) kp (Fv _) (show bR X.prog X.w _ h' _ (.lst ys)from⟨hz,its,c',r',e⟩),rfl,q _ (I.hok.fresh (Fv _))⟩
 rcases hq with hq|hq
 ·obtain⟨its,r',pl,hz⟩:=I.list hq;have hlen:=r'.length;obtain⟨o,ho,hc,n,hd⟩:=pl.isList;exact call_list_seq p (.inl rfl) ho hc hd (fun h' c' kp e=>fin its r' hz h' c' kp e) (by simp only[Fu]<;>omega)
 ·obtain⟨its,r',pl,hz⟩:=I.tuple hq;have hlen:=r'.length;obtain⟨o,ho,hc,n,hd⟩:=pl;exact call_list_seq p (.inr rfl) ho hc hd (fun h' c' kp e=>fin its r' hz h' c' kp e) (by simp only[Fu]<;>omega)
theorem b9:fh X (.type "tuple") (fun xs H Q=>∃p ys,xs=[.ref p]/\((SqL X.K H p ys/\∀l,H l=none->Q (.ref l) (upd H l (.tup ys)))\/(SqT X.K H p ys/\Q (.ref p) H))):=by
 intro pins s σ H xs us Q I r h;obtain⟨p,ys,rfl,h⟩:=h;obtain⟨u,rfl,rx⟩:=vals1 r;cases rx;rcases h with⟨hq,q⟩|⟨hq,q⟩
 ·obtain⟨its,r',pl,hz⟩:=I.list hq;have hlen:=r'.length;refine call_tuple_list pl.isList (fun h' kp=>?_) (by simp only[Fu]<;>omega);have I1:Inv X pins σ H {s with heap:=h'}:=I.kept (t':=s.toks) kp;have I2:Inv X pins σ (upd H h'.objs.size (.tup ys)) {s with heap:=h'.push {cls:=.type "tuple",data:=.seq its.toArray}}:=
   I1.laid (t':=s.toks) (fun b o e=>Fn _ e) (Fv _) (show bR X.prog X.w _ _ _ (.tup ys)from⟨hz,its,r',IsTup.new _ _⟩)
  exact⟨.ref h'.objs.size,_,I2,rfl,q _ (I1.hok.fresh (Fv _))⟩
 ·obtain⟨its,r',pl,hz⟩:=I.tuple hq;exact call_tuple_same pl ⟨.ref p,H,I,rfl,q⟩
def tyV(K:Frag)(T:String)(x:V)(H:Hp):Prop:=match x with
 | .str _=>T="str"
 | .int _=>T="int"
 | .ref p=>(T="list"/\∃xs,SqL K H p xs)\/(T="tuple"/\∃o,K.lookup p=some o/\o.cls=.type "tuple"/\o.dict=none)\/
  (T="dict"/\((∃kvs,H p=some (.dK kvs))\/∃kvs,H p=some (.dT kvs)))\/(T="set"/\∃S n,H p=some (.set S n))
 |_=>False
theorem yF{pins:List (Addr×Obj)}{σ:St}{H:Hp}{s:Shared}{T:String}{x:V}{v:Value}(I:Inv X pins σ H s)(r:RelV x v)(ty:tyV X.K T x H):
  s.TypeIs v T/\∀a,v=.ref a->∃ob,s.heap.get? a=some ob/\ob.dict=none:=by
 cases x with
 |str z=>obtain⟨t,rfl⟩:=r;cases (show T="str" from ty);exact⟨typeIs_str s z t,fun _ e=>nomatch e⟩
 |int i=>obtain⟨t,rfl⟩:=r;cases (show T="int" from ty);exact⟨typeIs_int s i t,fun _ e=>nomatch e⟩
 |ref p=>
  cases r;rcases ty with⟨rfl,xs,hq⟩|⟨rfl,o,hk,hc,hd⟩|⟨rfl,hk⟩|⟨rfl,S,n,hk⟩
  ·obtain⟨its,_,pl,_⟩:=I.list hq;refine⟨pl.isList.typeIs,fun a e=>?_⟩;cases e;obtain⟨o,n,e,c,hd,_⟩:=pl;exact⟨o,e,hd⟩
  ·refine⟨⟨o,I.kIn p o hk,hc⟩,fun a e=>?_⟩;cases e;exact⟨o,I.kIn _ o hk,hd⟩
  ·have z:∃o,s.heap.get? p=some o/\o.ExactDict:=by
    rcases hk with⟨kvs,hk⟩|⟨kvs,hk⟩
    ·obtain⟨_,_,_,_,o,_,_,e,ex,_⟩:=I.hok p _ hk;exact⟨o,e,ex⟩
    ·obtain⟨_,_,_,_,o,_,_,e,ex,_⟩:=I.hok p _ hk;exact⟨o,e,ex⟩
   obtain⟨o,e,ex⟩:=z;refine⟨⟨o,e,ex.1⟩,fun a e2=>?_⟩;cases e2;exact⟨o,e,ex.2.1⟩
  ·obtain⟨o,_,_,_,e,ex,_⟩:=I.hok p _ hk;refine⟨⟨o,e,ex.1⟩,fun a e2=>?_⟩;cases e2;exact⟨o,e,ex.2.1⟩
 |_=>exact False.elim ty
def ET(K:Frag)(T:String)(r:V->List V->Hp->VK->Prop)(to:TE):TE:=fun σ H Q=>to σ H fun x H1=>tyV K T x H1/\r x [] H1 Q
def tBM(K:Frag)(T:String)(r:V->List V->Hp->VK->Prop)(to:TE)(t:TA):TE:=fun σ H Q=>to σ H fun x H1=>tyV K T x H1/\t σ H1 fun xs H2=>r x xs H2 Q
variable{o e:Expr}{es:List Expr}{to:TE}{t:TA}{name:Str}{apos cpos:Pos}{T id:String}{r:V->List V->Hp->VK->Prop}
theorem u6(pa:PlainAttrs T)(slot:Slot T name id)(hty:typeOf (.builtin id)=pure (.type "method_descriptor"))(hm:MtR X id r)(ho:PE X o to)
  (hbase:attributeBase o name X.env (eval o X.env)=eval o X.env:=by rfl) (hline:(apos.endLine==cpos.line)=true:=by rfl):PE X (.Call (.Attribute o name apos) [] [] cpos) (ET X.K T r to):=by
 intro pins s σ H Q I h;refine wpAny_Call_method0_late hbase hline (thn (ho pins s σ H _ I h) fun v s1 hPz=>?_);obtain⟨x,H1,I1,r1,ty,q1⟩:=hPz;obtain⟨h1,h2⟩:=yF I1 r1 ty;exact⟨T,id,pa,slot,hty,h1,h2,Calls.callWith_builtin rfl (PySem.evalArgs_none (hm pins s1 σ H1 x [] v [] Q I1 r1 .nil q1))⟩
theorem jW(pa:PlainAttrs T)(slot:Slot T name id)(hty:typeOf (.builtin id)=pure (.type "method_descriptor"))(hm:MtR X id r)(ho:PE X o to)(ha:PA X (e::es) t)
  (hbase:attributeBase o name X.env (eval o X.env)=eval o X.env:=by rfl)
  (hfew:((backTo cpos (starEach (e::es) X.env)).all (fun x=> !x.1)&&(backToKw cpos (keywordEach [] X.env)).all (fun x=>x.1.isSome)
   &&decide ((e::es).length+([]:List Keyword).length+(if([]:List Keyword).isEmpty then 0 else 1)<30))=true:=by rfl)
  (hline:(apos.endLine==cpos.line)=true:=by rfl) (hs:starEach (e::es) X.env=(false,eval e X.env)::starEach es X.env:=by rfl) (hplain:(backTo cpos (starEach es X.env)).any (·.1)=false:=by rfl):
  PE X (.Call (.Attribute o name apos) (e::es) [] cpos) (tBM X.K T r to t):=by
 intro pins s σ H Q I h;refine wpAny_Call_method_late hbase hfew hline rfl (thn (ho pins s σ H _ I h) fun v s1 hPz=>?_);obtain⟨x,H1,I1,r1,ty,q1⟩:=hPz;obtain⟨h1,h2⟩:=yF I1 r1 ty;refine⟨T,id,pa,slot,hty,h1,h2,?_⟩;have hA:=ha cpos pins s1 σ H1 _ I1 q1;rw[hs]at hA ⊢;refine Calls.callWith_builtin (by show(false||(backTo cpos (starEach es X.env)).any (·.1))=false;rw[hplain]<;>rfl) (Calls.evalArgs_plain ?_);exact thn hA fun us s2 hPz=>L2.ep3 hPz fun vs H2 I2 r2 q2=>hm pins s2 σ H2 x vs v us Q I2 r1 r2 q2
end
def MtM(X:Cx)(id:String)(r:V->List V->Hp->VK->Prop):Prop:=
 ∀(pins:List (Addr×Obj))(s:Shared)(σ:St)(H:Hp)(x:V)(xs:List V)(v:Value)(us:List Value)(Q:VK),Inv X pins σ H s->RelV x v->Vals xs us->r x xs H Q->
  wpAny (model X.prog X.w) X.A (call (.builtin id) (v::us)) (EP X pins σ Q) X.xe s
theorem Vals.one:∀{x:V}{us:List Value},Vals [x] us->∃u,us=[u]/\RelV x u
 |_,_,.cons r .nil=>⟨_,rfl,r⟩
theorem Vals.zero:∀{us:List Value},Vals [] us->us=[]
 |_,.nil=>rfl
theorem Vals.dropLast{xs:List V}{us:List Value}(h:Vals xs us):Vals xs.dropLast us.dropLast:=by
 induction h with
 |nil=>exact .nil
 |cons r t ih=>
  cases t with
  |nil=>exact .nil
  |cons q t'=>exact .cons r ih
theorem Vals.reverse{xs:List V}{us:List Value}(h:Vals xs us):Vals xs.reverse us.reverse:=by
 induction h with
 |nil=>exact .nil
 |cons r t ih=>rw[List.reverse_cons,List.reverse_cons];exact Vals.append ih (.cons r .nil)
theorem vH{α:Type}(l:List α):l.eraseIdx (l.length-1)=l.dropLast:=by
 induction l with
 |nil=>rfl
 |cons a r ih=>
  cases r with
  |nil=>rfl
  |cons b r=>
   have e:(a::b::r).length-1=((b::r).length-1)+1:=by
    have h1:(a::b::r).length=r.length+2:=rfl;have h2:(b::r).length=r.length+1:=rfl
    lia
   rw[e,List.eraseIdx_cons_succ,ih]
   all_goals rfl
section
variable{X:Cx}{pins:List (Addr×Obj)}{σ:St}{H:Hp}{s:Shared}{l b:Addr}{xs ys zs:List V}
theorem Inv.lset{its its':List Value}{n:Nat}{f:Array Value->Array Value}{t':Nat}(I:Inv X pins σ H s)(hH:H l=some (.lst xs))
  (e:s.heap.get? l=some {cls:=.type "list",data:=.seq its.toArray n}) (hf:f its.toArray=its'.toArray) (hv:Vals ys its') (hz:ys.length<=sizeLine):
  Inv X pins σ (upd H l (.lst ys)) {s with heap:=s.heap.update l (Obj.mapSeq f),toks:=t'}:=by
 have q:=PySem.IsL.update e f;rw[hf]at q;refine I.write (x:=l) (e:=l) (by rw[hH];exact trivial) (.inl rfl) (fun b' u hb hu=>(GL s.heap (Obj.mapSeq f) (GR hb)).trans hu) ⟨_,q⟩ ?_;exact⟨hz,its',_,hv,q⟩
theorem Inv.lnew{its:List Value}{t':Nat}(I:Inv X pins σ H s)(hv:Vals ys its)(hz:ys.length<=sizeLine):
  Inv X pins σ (upd H s.heap.objs.size (.lst ys)) {s with heap:=s.heap.push {cls:=.type "list",data:=.seq its.toArray},toks:=t'}:=
 I.laid (fun _ _ q=>Fn _ q) (Fv _) ⟨hz,its,0,hv,FT _ rfl⟩
theorem Inv.fresh(I:Inv X pins σ H s):H s.heap.objs.size=none:=I.hok.fresh (Fv _)
theorem Inv.lstM(I:Inv X pins σ H s)(hH:H l=some (.lst xs)):xs.length<=sizeLine/\∃(its:List Value)(n:Nat),Vals xs its/\xs.length=its.length/\s.heap.get? l=some {cls:=.type "list",data:=.seq its.toArray n}:=by obtain⟨z,its,n,r,e⟩:=I.hok l _ hH;exact⟨z,its,n,r,r.length,e⟩
end
section
variable{X:Cx}
def AY:V->List V->Hp->VK->Prop:=fun x vs H Q=>∃l xs y,x=.ref l/\vs=[y]/\H l=some (.lst xs)/\xs.length<sizeLine/\Q .non (upd H l (.lst (xs++[y])))
theorem dY:MtM X "list.append" AY:=by
 intro pins s σ H x vs v us Q I rx rv h;obtain⟨l,xs,y,rfl,rfl,hH,hz,q⟩:=h;cases rx;obtain⟨u,rfl,ru⟩:=rv.one;obtain⟨z,its,n,r,hl,e⟩:=I.lstM hH;refine call_meets F.slot_list_append ⟨_,e,rfl⟩ F.entry_list_append (F.args_list_append_2 _ _) (PySem.list_append l its.toArray n u (by rw[Fu];lia)) ⟨e,?_⟩;refine⟨.non,_,I.lset (its':=its++[u]) hH e (by simp) (r.append (.cons ru .nil)) ?_,rfl,q⟩;rw[Fz,GC]
 lia
def EZ:V->List V->Hp->VK->Prop:=fun x vs H Q=>∃l xs y,x=.ref l/\vs=[]/\H l=some (.lst xs)/\xs[xs.length-1]?=some y/\Q y (upd H l (.lst xs.dropLast))
theorem CS:MtM X "list.pop" EZ:=by
 intro pins s σ H x vs v us Q I rx rv h;obtain⟨l,xs,y,rfl,rfl,hH,hy,q⟩:=h;cases rx;have hus:=rv.zero;subst hus;obtain⟨z,its,n,r,hl,e⟩:=I.lstM hH;obtain⟨u,hu,ru⟩:=r.get hy;have hy':its.toArray[its.toArray.size-1]?=some u:=by show its.toArray[its.length-1]?=some u;rw[<-GW,<-hl];exact hu
 refine call_meets F.slot_list_pop ⟨_,e,rfl⟩ F.entry_list_pop (F.args_list_pop_1 _) (MeetsSeq.list_pop_last l its.toArray n u hy' (by rw[Fu];lia)) ⟨e,?_⟩;refine⟨y,_,I.lset (its':=its.dropLast) hH e ?_ r.dropLast ?_,ru,q⟩
 ·show its.toArray.eraseIdxIfInBounds (its.toArray.size-1)=its.dropLast.toArray;rw[Fu,List.eraseIdxIfInBounds_toArray,vH]
 ·rw[List.length_dropLast];omega
def yV:V->List V->Hp->VK->Prop:=fun x vs H Q=>∃l xs,x=.ref l/\vs=[]/\H l=some (.lst xs)/\Q .non (upd H l (.lst xs.reverse))
theorem vi:MtM X "list.reverse" yV:=by
 intro pins s σ H x vs v us Q I rx rv h;obtain⟨l,xs,rfl,rfl,hH,q⟩:=h;cases rx;have hus:=rv.zero;subst hus;obtain⟨z,its,n,r,hl,e⟩:=I.lstM hH;refine call_meets F.slot_list_reverse ⟨_,e,rfl⟩ F.entry_list_reverse (F.args_list_reverse_1 _) (AutoSeq1.list_reverse_list_0 l its.toArray n (by rw[Fu];omega)) ⟨e,?_⟩;refine⟨.non,_,I.lset (its':=its.reverse) hH e (by simp) r.reverse ?_,rfl,q⟩;rw[List.length_reverse]
 lia
noncomputable def E5:R2:=fun x y H Q=>∃l b xs zs,x=.ref l/\y=.ref b/\H l=some (.lst xs)/\H b=some (.lst zs)/\xs.length+zs.length<=sizeLine/\∀p,H p=none->Q (.ref p) (upd H p (.lst (xs++zs)))
theorem CK:OpR X (binaryOp .Add) E5:=by
 intro pins s σ H x y v u Q I rx ry h;obtain⟨l,b,xs,zs,rfl,rfl,hH,hB,hz,q⟩:=h;cases rx;cases ry;obtain⟨z,its,n,r,hl,e⟩:=I.lstM hH;obtain⟨z2,its2,n2,r2,hl2,e2⟩:=I.lstM hB;refine PySem.P.add_list e e2 ?_ (by rw[Fu,Fu];lia);have ea:its.toArray++its2.toArray=(its++its2).toArray:=by simp
 rw[ea];exact⟨.ref _,_,I.lnew (t':=s.toks) (r.append r2) (by rw[Fz];lia),rfl,q _ I.fresh⟩
end
end L2
namespace Att
open PySem PySem.W PySem.Calls PyProof.Rows
theorem nV{P:Params}{h:Heap}:∀(ns:List Int)(vs:List Value),WellAll P h vs (ns.map WData.int)->IntsAre vs ns:=by
 intro ns
 induction ns with
 |nil=>intro vs w;rw[List.map_nil]at w;cases w;exact .nil
 |cons n ns ih=>
  intro vs w;rw[FG]at w;cases w with
  |cons a b=>cases a;exact .cons _ _ (ih _ b)
theorem xt{l:OpenLaw}{n:Nat}(hn:l.most=some n){P:Params}{h:Heap}{args:List WData}{vals:List Value}
  (hpre:l.row.toRowW.claim.pre args=true) (hwl:WellAll P h vals args):
  ∃a vs ns,vals=[Value.ref a]/\args=[WData.list (ns.map WData.int)]/\h.get? a=some {cls:=.type "list",data:=.seq vs.toArray}/\IntsAre vs ns/\ns.length<=n:=by
 have hsh:WShape.hasAll [] args [.list .int]=true:=(pre_splitW hpre).1;have hc:l.pre.holds [] {args:=args}=true:=(pre_splitW hpre).2;obtain⟨d,r,rfl,h1,h2⟩:=hasAllW_cons hsh;obtain rfl:=hasAllW_nil h2;obtain⟨xs,rfl,h3⟩:=hasW_list h1;obtain⟨ns,rfl⟩:=items_int h3;have hlen:ns.length<=n:=by
  unfold OpenLaw.pre at hc;have h4:(WTm.not (.lt (.lit (.int (n:Int))) (.len (.arg 0)))).holds [] {args:=[.list (ns.map .int)]}=true:=by have h4:=(holds_andW hc).1;rw[hn]at h4;exact h4
  have h5:=condW_of h4 (w_not (w_lt w_lit (w_len_list (w_arg rfl))));rw[Fm]at h5;refine Nat.le_of_not_lt fun q=>?_;have q':(n:Int)<((ns.length:Nat):Int):=by omega
  first
   |(rw[FQ q']at h5;exact absurd h5 (by decide))
   |(simp at h5;omega)
 cases hwl with
 |cons w1 w2=>
  cases w2;cases w1 with
  |list ho hall=>exact⟨_,_,ns,rfl,rfl,ho,nV ns _ hall,hlen⟩
theorem xE(l:OpenLaw)(args:List WData):l.row.toRowW.claim.post args (.bool true) args=true:=
 postW_of (r:=l.row.toRowW) (X:=(true==true))
  (show WShape.has [] (.bool true) .bool=true by first|rfl|decide|simp[WShape.has,WShape.arms,WShape.armsAll])
  (show(WTm.eq .res (.lit (.bool true))).value [] {args:=args,res:=some (.bool true),after:=args}=some (.bool (true==true))from w_eq_bool (w_res rfl) w_lit) rfl
theorem uJ{l:OpenLaw}{n:Nat}{q:Program}{loose:List Str}{XP:(Str->Option Value)->Heap->Prop}{YP:World->Heap->Prop}{d:DefRec}
  (hn:l.most=some n) (hdf:d.params.defaults=[])
  (call:∀(w:World)(s₀ s₁:Shared)(mg mb:Str->Option Value)(fa:Addr)(o:Obj)(pm cd doc:Value)(a:Addr)(vs:List Value)(ns:List Int),
   Ground q loose [] XP w s₀ mg mb s₁.heap->YP w s₁.heap->
   s₁.heap.get? fa=some o->o.data=.func (docDef d.name d.params d.body d.scope pm cd doc)->s₁.heap.CodeRec cd d.name->mg d.name=some (.ref fa)->
   s₁.heap.get? a=some {cls:=.type "list",data:=.seq vs.toArray}->IntsAre vs ns->ns.length<=n->s₁.gens= #[]->
   codeAny (model l.prog w) callerA (.call (.ref fa) ⟨[.ref a],[]⟩) (fun r s'=>r=.ok (.ret (.bool true))/\OldK s₁.heap s'.heap/\s'.os=s₁.os/\AllBare s'.gens) s₁):
  WalkO q loose XP YP l.row.toRowW d [] (fun f vs=>PySem.call f vs):=by
 intro w s₀ s₁ mg mb G Y fa o pm cd doc dV kV ho hd hcd hD hmg hg args vals as hpre hlay hrd hwl hlo;obtain rfl:dV=.none:=Dflts.none hD hdf;obtain rfl:kV=.none:=Dflts.noKw hD;obtain⟨a,vs,ns,rfl,rfl,hobj,hints,hlen⟩:=xt hn hpre hwl;refine enter_call (codeAny_mono (call w s₀ s₁ mg mb fa o pm cd doc a vs ns G Y ho (fd_plain hd) hcd hmg hobj hints hlen hg) fun r s' hq=>?_);obtain⟨rfl,h2,h3,h4⟩:=hq;exact⟨.inl ⟨.bool true,.bool true,[],rfl,fun _=>rfl,.bool true,xE l _,fun _=>⟨List.Pairwise.nil,fun _ hm=>(nomatch hm)⟩⟩,h2,h3,h4⟩
end Att
namespace L2
open PySem PySem.Spec PyProof.Rows
theorem xj{vs:List Value}{ns:List Int}(hI:IntsAre vs ns):Vals (ns.map V.int) vs:=by
 induction hI with
 |nil=>exact .nil
 |cons n t h ih=>exact .cons ⟨t,rfl⟩ (ih)
def BQ(H:Hp):Prop:=∀b,H b=none\/∃o xs,H b=some (.frz o (.lst xs))
theorem zr{P:Program}{w:World}{K:Frag}{mg mb:Str->Option Value}{CX:CXT}{k:Nat}{fa a:Addr}{fd:FuncData}{x:Str}{sp:Sp}{s₁:Shared}{vs:List Value}{ns:List Int}
  (KX:K.In s₁.heap) (hns:s₁.heap.Ns mainGlobals mg) (hb:s₁.heap.Ns builtinsNs mb) (hbb:∀x:Str,x≠"__name__"->mb x=bootBuiltins x) (hlim:s₁.heap.NoLimit) (hg:s₁.gens= #[])
  (ha:s₁.heap.get? a=some {cls:=.type "list",data:=.seq vs.toArray}) (hi:IntsAre vs ns) (hl:ns.length<=sizeLine) (hr:cA k callerA)
  (F:∀base:Heap,K.In base->base.Ns mainGlobals mg->gK P w K mg base CX k fa fd [x] sp) (hbind:∀(s:Shared)(u:Value),BindsTo s fd ⟨[u],[]⟩ [(x,u)])
  (hsp:∀H:Hp,BQ H->SqL K H a (ns.map V.int)->sp [.ref a] H (fun v _=>v=.bl true) fun _ _ _=>False)
  (hCX:∀H e s',CX [] H s₁ (fun _ _ _=>False) e s'->False):
  codeAny (model P w) callerA (.call (.ref fa) ⟨[.ref a],[]⟩) (fun r s'=>r=.ok (.ret (.bool true))/\OldK s₁.heap s'.heap/\s'.os=s₁.os/\AllBare s'.gens) s₁:=by
 have rv:=xj hi;have lenV:=hi.length;have core:∀H:Hp,BQ H->SqL K H a (ns.map V.int)->HOk P w H s₁.heap->(∀b,H b≠none->b=a)->(H a≠none->K.lookup a=none)->
   codeAny (model P w) callerA (.call (.ref fa) ⟨[.ref a],[]⟩) (fun r s'=>r=.ok (.ret (.bool true))/\OldK s₁.heap s'.heap/\s'.os=s₁.os/\AllBare s'.gens) s₁:=by
  intro H hO hS hok hA hK;have base_of:∀{b:Addr}{o:Obj},s₁.heap.get? b=some o->H b=none->(sN s₁.heap H).get? b=some o:=fun e n=>zC e n;have noA:∀{b:Addr}{o:Obj}{es:Array DictEntry}{ep:Nat},s₁.heap.get? b=some o->o.data=.dict es ep->H b=none:=fun {b o es ep} e d=>by
   cases q:H b with
   |none=>rfl
   |some u=>have e':b=a:=hA b (by rw[q];simp);subst e';rw[ha]at e;cases e;have d':Data.seq vs.toArray _=Data.dict es ep:=d;cases d'
  have nsK:∀{b:Addr}{m:Str->Option Value},s₁.heap.Ns b m->(sN s₁.heap H).Ns b m:=fun {b m} ⟨o,es,ep,e,d,r⟩=>⟨o,es,ep,base_of e (noA e d),d,r⟩
  have hKb:K.In (sN s₁.heap H):=fun b o e=>base_of (KX b o e) (by
   cases q:H b with
   |none=>rfl
   |some u=>
    have e':b=a:=hA b (by rw[q];simp);subst e'
    rw[hK (by rw[q];simp)]at e;cases e)
  have hM:Mod K mg (sN s₁.heap H):=⟨hKb,nsK hns,⟨mb,nsK hb,hbb⟩,let ⟨mc,h1,h2⟩:=hlim;⟨mc,nsK h1,h2⟩⟩;have e0:qk P w K mg (sN s₁.heap H) callerA [] s₁ H:=⟨rfl,hM,fun b o e=>Bf e,Nat.le_of_eq (x8 _ _),trivial,fun b hb=>absurd (show b∈([]:List Addr)from hb) (by simp),hok,.of_eq hg⟩;refine codeAny_mono ((F _ hKb (nsK hns)).run callerA [] s₁ H ⟨[.ref a],[]⟩ [.ref a] [.ref a] _ _ hr e0 (hbind s₁ (.ref a)) (.cons rfl .nil) (hsp H hO hS)) fun r s' h=>?_;cases r with
  |error e=>exact(hCX H e s' h).elim
  |ok fl=>
   cases fl with
   |next=>exact False.elim h
   |brk=>exact False.elim h
   |cont=>exact False.elim h
   |ret u=>
    obtain⟨v,H',os,bare,un,hok',r',q⟩:=h;have q':v=.bl true:=q;subst q';obtain rfl:u=Value.bool true:=r';refine⟨rfl,OldK.of_keep fun b o e=>?_,os,bare⟩;cases q:H b with
    |none=>exact un.keep b o e q (by intro z;exact absurd (show b∈([]:List Addr)from z) (by simp)) (by simp)
    |some u=>
     rcases hO b with z|⟨ob,xs,z⟩
     ·rw[q]at z;cases z
     ·have z2:=un.frzs b ob _ z;obtain⟨e1,_⟩:=hok b _ z;obtain⟨e2,_⟩:=hok' b _ z2;rw[e]at e1;cases e1;exact e2
 cases hk:K.lookup a with
 |some o=>have e:=KX a o hk;rw[ha]at e;cases e;refine core (fun _=>none) (fun _=>.inl rfl) (.inr ⟨_,vs.toArray,_,hk,rfl,rfl,rfl,by rw[Fu,lenV];exact hl,by simpa using rv⟩) (fun b u z=>by have z':(none:Option HO)=some u:=z;cases z') (fun b z=>absurd rfl z) fun z=>absurd rfl z
 |none=>
  refine core (fun b=>if b=a then some (.frz {cls:=.type "list",data:=.seq vs.toArray} (.lst (ns.map V.int)))else none) (fun b=>?_) (.inl (.inr ⟨{cls:=.type "list",data:=.seq vs.toArray},FH rfl⟩)) (fun b u z=>?_) (fun b z=>?_) fun _=>hk
  ·by_cases hb:b=a
   ·exact .inr ⟨_,_,FH hb⟩
   ·exact .inl (FA hb)
  ·by_cases hb:b=a
   ·have z':=(FH hb).symm.trans z;cases z';subst hb;exact⟨ha,by rw[Fm];exact hl,vs,_,rv,ha⟩
   ·have z':=(FA hb).symm.trans z;cases z'
  ·by_cases hb:b=a
   ·exact hb
   ·exact absurd (FA hb) z
noncomputable abbrev KOf{K:Frag}{h:Heap}(_:K.In h):Frag:=K
theorem Ay{l:PySem.W.OpenLaw}{n k:Nat}{q:Program}{loose:List Str}{XP:(Str->Option Value)->Heap->Prop}{YP:World->Heap->Prop}{d:DefRec}{K:Params->Frag}{CX:World->CXT}{sp:World->Sp}{x:Str}
  (hn:l.most=some n) (hn2:n<=sizeLine) (hdf:d.params.defaults=[]) (hr:cA k callerA)
  (hY:∀(w:World)(h:Heap),YP w h->(K w.params).In h)
  (F:∀(w:World)(mg:Str->Option Value)(fa:Addr)(h:Heap),(K w.params).In h->h.Ns mainGlobals mg->mg d.name=some (.ref fa)->
   ∃fd:FuncData,(∀(s:Shared)(u:Value),BindsTo s fd ⟨[u],[]⟩ [(x,u)])/\
    ∀base:Heap,(K w.params).In base->base.Ns mainGlobals mg->gK l.prog w (K w.params) mg base (CX w) k fa fd [x] (sp w))
  (hsp:∀(w:World)(H:Hp)(a:Addr)(ns:List Int),ns.length<=n->BQ H->SqL (K w.params) H a (ns.map V.int)->sp w [.ref a] H (fun v _=>v=.bl true) fun _ _ _=>False)
  (hCX:∀(w:World)(H:Hp)(s:Shared)(e:Value)(s':Shared),CX w [] H s (fun _ _ _=>False) e s'->False):
  PySem.W.WalkO q loose XP YP l.row.toRowW d [] (fun f vs=>PySem.call f vs):=by
 refine Att.uJ hn hdf fun w s₀ s₁ mg mb fa o pm cd doc a vs ns G Y ho hd hcd hmg hobj hints hlen hg=>?_;have KX:=hY w _ Y;obtain⟨fd,hb,hF⟩:=F w mg fa _ KX G.T.g hmg;exact zr KX G.T.g G.T.b G.T.builtins G.T.nolimit hg hobj hints (FW hlen hn2) hr hF hb (fun H hO hS=>hsp w H a ns hlen hO hS) fun H e s'=>hCX w H s₁ e s'
theorem yB{l:PySem.W.OpenLaw}{n k:Nat}{q:Program}{loose:List Str}{XP:(Str->Option Value)->Heap->Prop}{YP:World->Heap->Prop}{d:DefRec}{K:Params->Frag}{CX:CXT}{sp:Frag->Sp}{x:Str}
  (hn:l.most=some n) (hn2:n<=sizeLine) (hdf:d.params.defaults=[]) (hr:cA k callerA)
  (hY:∀(w:World)(h:Heap),YP w h->(K w.params).In h)
  (F:∀(w:World)(mg:Str->Option Value)(fa:Addr)(h:Heap),(K w.params).In h->h.Ns mainGlobals mg->mg d.name=some (.ref fa)->
   ∃fd:FuncData,(∀(s:Shared)(u:Value),BindsTo s fd ⟨[u],[]⟩ [(x,u)])/\
    ∀base:Heap,(K w.params).In base->base.Ns mainGlobals mg->gK l.prog w (K w.params) mg base CX k fa fd [x] (sp (K w.params)))
  (hsp:∀(K:Frag)(H:Hp)(a:Addr)(ns:List Int),ns.length<=n->BQ H->SqL K H a (ns.map V.int)->sp K [.ref a] H (fun v _=>v=.bl true) fun _ _ _=>False)
  (hCX:∀(H:Hp)(s:Shared)(e:Value)(s':Shared),CX [] H s (fun _ _ _=>False) e s'->False):
  PySem.W.WalkO q loose XP YP l.row.toRowW d [] (fun f vs=>PySem.call f vs):=
 Ay (K:=K) (CX:=fun _=>CX) (sp:=fun w=>sp (K w.params)) hn hn2 hdf hr hY F (fun w H a ns h1 h2 h3=>hsp (K w.params) H a ns h1 h2 h3) fun _ H s e s'=>hCX H s e s'
noncomputable def cF(s:Stmt):Arguments:=match s with
 | .FunctionDef _ a _ _ _ _ _ _ _ _=>a
 |_=>{posonlyargs:=[],args:=[],vararg:=none,kwonlyargs:=[],kw_defaults:=[],kwarg:=none,defaults:=[]}
noncomputable def bA(s:Stmt):List Stmt:=match s with
 | .FunctionDef _ _ b _ _ _ _ _ _ _=>b
 |_=>[]
noncomputable def ao(s:Stmt):Scope:=match s with
 | .FunctionDef _ _ _ _ _ _ sc _ _ _=>sc
 |_=>{kind:=.function,names:=[],isGenerator:=false,isCoroutine:=false}
noncomputable abbrev CX0:CXT:=fun _ _ _ _ _ _=>False
noncomputable abbrev E0:XK:=fun _ _ _=>False
theorem tZ{X:Cx}:Passes CX0 X E0:=fun _ _ _ _ _ _ _ h=>h.elim
structure Fun(K:Frag)(x qual:Str)(st:Stmt)(f:Addr)(fd:FuncData):Prop where
 ex:∃(oc:Value)(od:Option Addr)(kV doc pm:Value)(an:Option Addr)(cdv ct:Value)(osl:Array (Option Value)),
  fd=fnOf x qual (cF st) (bA st) (ao st) .none kV doc pm an cdv ct/\K.lookup f=some ⟨oc,od,.func fd,osl⟩/\codeIn K cdv qual=true
 kp:keepIn K (.ref f)=true
section
variable{P:Program}{w:World}{K:Frag}{mg:Str->Option Value}{base:Heap}
theorem Fun.ok{x qual:Str}{st:Stmt}{f:Addr}{fd:FuncData}{N ps:List Str}{k:Nat}{sp:Sp}(F:Fun K x qual st f fd)(S:aB N ps (ao st))(len:∀vs H Q E,sp vs H Q E->vs.length=ps.length)
  (hbody:∀(cdv:Value)(A:Around)(outer:List Env)(s:Shared)(H:Hp)(vs:List V)(Q:VK)(E:XK),cA k (A.deeper (envOfC qual (ao st) s.heap.objs.size f cdv))->sp vs H Q E->
   ∃t,PSs (gN CX0 P w K mg base N qual (ao st) f cdv A outer s H E).nox (bA st) t/\t {nx:=fun _ H'=>Q .non H',rt:=Q} (start N vs) H):gK P w K mg base CX0 (k+1) f fd ps sp:=by
 obtain⟨oc,od,kV,doc,pm,an,cdv,ct,osl,rfl,lk,hcd⟩:=F.ex;refine wR lk hcd S len fun A outer s H vs Q E hr hsp=>?_;obtain⟨t,h,q⟩:=hbody cdv A outer s H vs Q E hr hsp;exact⟨t,h.nox,q⟩
theorem Fun.binds{x qual:Str}{st:Stmt}{f:Addr}{fd:FuncData}{ps:List Str}(F:Fun K x qual st f fd)
  (h:∀(kV doc pm:Value)(an:Option Addr)(cdv ct:Value)(us:List Value),us.length=ps.length->bindArgs (fnOf x qual (cF st) (bA st) (ao st) .none kV doc pm an cdv ct) ⟨us,[]⟩=pure (ps.zip us)):Binds K fd ps []:=by
 obtain⟨oc,od,kV,doc,pm,an,cdv,ct,osl,rfl,lk,hcd⟩:=F.ex;exact .all (h kV doc pm an cdv ct)
theorem ph{x qual:Str}{st:Stmt}{f:Addr}{oc:Value}{od an:Option Addr}{osl:Array (Option Value)}{kV doc pm cdv ct:Value}(l:K.lookup f=some ⟨oc,od,.func (fnOf x qual (cF st) (bA st) (ao st) .none kV doc pm an cdv ct),osl⟩)
 (c:codeIn K cdv qual=true) (k:keepIn K (.ref f)=true):Fun K x qual st f (fnOf x qual (cF st) (bA st) (ao st) .none kV doc pm an cdv ct):=⟨⟨oc,od,kV,doc,pm,an,cdv,ct,osl,rfl,l,c⟩,k⟩
end
theorem iq{A:Around}{k:Nat}(hr:cA k A):A.units+1<cLine:=Nat.lt_of_le_of_lt (Nat.add_le_add_left (by decide:1<=64) _) hr.units
theorem aD{n:Nat}(h:n<=1000):n<sizeLine:=Nat.lt_of_le_of_lt h (by decide)
section
variable{X:Cx}
theorem pv(i:Nat){x:Str}{pos:Pos}(hN:X.N[i]?=some x:=by rfl)(hv:Vis X.env.scope x:=by first|exact Or.inl rfl|exact Or.inr (Or.inl rfl)|exact Or.inr (Or.inr rfl))(hd:(x==("__debug__":Str))=false:=by decide)
 (hcd:(x==("__classdict__":Str))=false:=by decide):PE X (.Name x pos) (DJ i):=CD hN hv hd hcd
end
theorem fM{A B:Prop}(h:B):if false=true then A else B:=by rw[FA FP];exact h
theorem ip{A B:Prop}(h:A):if true=true then A else B:=by rw[FH rfl];exact h
theorem bw{c A B:Prop}[Decidable c](h1:c->A)(h2:¬c->B):if c then A else B:=by
 by_cases h:c
 ·rw[FH h];exact h1 h
 ·rw[FA h];exact h2 h
def ak(H H':Hp):Prop:=∀b o,H b=some o->H' b=some o
theorem ak.refl(H:Hp):ak H H:=fun _ _ h=>h
theorem ak.trans{H H1 H2:Hp}(a:ak H H1)(b:ak H1 H2):ak H H2:=fun c o h=>b c o (a c o h)
theorem ak.free{H H':Hp}(e:ak H H'){l:Addr}(h:H' l=Option.none):H l=Option.none:=by
 cases q:H l with
 |none=>rfl
 |some o=>rw[e l o q]at h;cases h
theorem ak.seq{K:Frag}{H H':Hp}{a:Addr}{xs:List V}(e:ak H H')(h:SqL K H a xs):SqL K H' a xs:=by
 rcases h with(h|⟨o,h⟩)|h
 ·exact .inl (.inl (e _ _ h))
 ·exact .inl (.inr ⟨o,e _ _ h⟩)
 ·exact .inr h
section
variable{X:Cx}
noncomputable abbrev dz(X:Cx)(N':List Str)(scope:Scope)(cl:List (Str×Addr))(C:Addr)(ex:List Addr)(s:Shared)(H:Hp):Cx where
 prog:=X.prog
 w:=X.w
 K:=X.K
 mg:=X.mg
 base:=X.base
 A:=X.A
 N:=N'
 s₀:=s
 H₀:=H
 env:=compEnvC scope cl C X.env
 outer:=X.stack
 stack:=X.stack
 ex:=ex
 fn:=fun x=>(cl.lookup x).isNone
 calm:=X.calm
 pn:=[]
 xe:=fun _ _=>False
def Ao(X:Cx)(ifs:List Expr)(t:TT):Prop:=
 ∀(pins:List (Addr×Obj))(s:Shared)(σ:St)(H:Hp)(Q:Bool->Hp->Prop),Inv X pins σ H s->t σ H Q->
  wpAny (model X.prog X.w) X.A (forIn ifs true fun c r=>if r=true then do let ok <-isTrue c X.env (eval c X.env);pure (ForInStep.yield ok)else pure (ForInStep.yield r)) (TP X pins σ Q) X.xe s
def EE:TT:=fun _ H Q=>Q true H
theorem bz:Ao X [] EE:=fun _ _ _ H _ I h=>wpAny_tests_nil ⟨H,I,h⟩
theorem ji{c:Expr}{t:TT}(h:PT X c t):Ao X [c] t:=fun pins s σ H Q I q=>wpAny_tests_one (h pins s σ H Q I q)
def Wk(σ σ2:St):Prop:=σ.length=σ2.length/\∀(i:Nat) v,σ[i]?=some (some v)->σ2[i]?=some (some v)
noncomputable def fR(n:Nat)(js:List Nat)(σ:St):St:=List.replicate n none++js.map fun j=>(σ[j]?).join
def BZ(wi:TI)(g:TG)(tt:TT)(te:TE)(n:Nat)(js:List Nat):TE:=fun σ H Q=>wi σ H fun J H1=>∀D,H1 D=none->∃W:Nat->Nat->List V->Hp->Prop,(∃m,W 0 m [] (upd H1 D (.lst [])))/\∀i m acc H2,W i m acc H2->
 (J.stop i H2/\Q (.ref D) H2)\/(J.go i H2/\∃N:List V->Hp->Prop,(∀acc' H',N acc' H'->∃m',m'<m/\W (i+1) m' acc' H')/\∀x H3,J.yld i H2 x H3->g x (fR n js σ) H3 fun σ2 H4=>tt σ2 H4 fun b H5=>
  if b=true then te σ2 H5 fun y H6=>H6 D=some (.lst acc)/\acc.length<sizeLine/\N (acc++[y]) (upd H6 D (.lst (acc++[y])))else N acc H5)
theorem zB{pins:List (Addr×Obj)}{σ:St}{H:Hp}{s:Shared}{fp:List Addr}{scope:Scope}{cl:List (Str×Addr)}{own:List Str}{fr:List (Str×Nat)}{h1:Heap}{m0:Str->Option Value}{tk:Nat}
  (I:Inv X pins σ H s) (hf:∀b∈fp,kF X pins H b) (hlt:∀b∈fp,b<s.heap.objs.size) (hkind:scope.kind=.function)
  (hcl:∀x c,cl.lookup x=some c->X.env.cells.lookup x=some c)
  (hkin:∀x,((relabel scope X.env).names.lookup x=some .cell\/(relabel scope X.env).names.lookup x=some .free)->∃c,cl.lookup x=some c)
  (hfr:∀p∈fr,X.N[p.2]?=some p.1/\X.env.kindOf p.1=some .cell)
  (hvis:∀p∈fr,(relabel scope X.env).names.lookup p.1=some .cell)
  (hn:h1.Ns s.heap.objs.size m0) (kk:∀b u,s.heap.get? b=some u->h1.get? b=some u):
  Inv (dz X (own++fr.map (·.1)) scope cl s.heap.objs.size fp s H) [] (fR own.length (fr.map (·.2)) σ) H {s with heap:=h1,toks:=tk}:=by
 refine⟨⟨I.ok.mod,hkind,I.ok.glob,I.ok.blt,Fv _,fun x y c e1 e2=>I.ok.inj x y c (hcl x c e1) (hcl y c e2),hkin,fun x c h e=>?_,I.ok.hd,I.ok.frames,.inl rfl,fun b hb=>?_,I.bs,FW I.ok.bsz I.sz,fun b o e hb=>?_,fun b hb z=>?_,I.stack,I.stkFree⟩,
  rfl,I.bare,Un.kept kk,⟨m0,hn,fun i x v e1 e2 e3=>?_⟩,fun x c e=>?_,I.hok.fresh (Fv _),fun x c e=>I.freeC x c (hcl x c e),fun p hp=>absurd (show p∈([]:List (Addr×Obj))from hp) (by simp),I.hok.kept kk,?_⟩
 ·have h':(cl.lookup x).isNone=true:=h;have e':cl.lookup x=some c:=e;rw[e']at h';cases h'
 ·exact⟨F4 (hlt b hb),fun x c e=>(hf b hb).2.2.2.2.1 x c (hcl x c e)⟩
 ·rcases (hf b hb).2.2.2.1 with z|z
  ·exact I.ok.noex b o e z
  ·exact absurd (FE (FI (I.ok.bs b o e).1) z) (G3 _)
 ·rcases FL.mp (I.stkSub b z)with e|e
  ·exact(hf b hb).2.1 e
  ·exact(hf b hb).2.2.1 e
 ·have e1':(own++fr.map (·.1))[i]?=some x:=e1;have e2':(List.replicate own.length none++(fr.map (·.2)).map fun j=>(σ[j]?).join)[i]?=some (some v):=e2;by_cases hi:i<own.length
  ·rw[List.getElem?_append_left (by simpa using hi),List.getElem?_replicate]at e2';split at e2'<;>cases e2'
  ·rw[List.getElem?_append_right (by lia)]at e1';rw[List.getElem?_append_right (by simpa using hi)]at e2';simp only[List.length_replicate,FO,Option.map_map]at e1' e2';cases q:fr[i-own.length]? with
   |none=>rw[q]at e1';cases e1'
   |some p=>
    rw[q]at e1' e2';simp only[Option.map_some,Option.some.injEq]at e1' e2';subst e1';have hp:p∈fr:=Fs q;obtain⟨m,_,hl⟩:=I.loc;have e3':σ[p.2]?=some (some v):=by
     cases z:σ[p.2]? with
     |none=>rw[Function.comp_apply,z]at e2';cases e2'
     |some y=>rw[Function.comp_apply,z]at e2';simp only[Option.join]at e2';rw[<-e2'];rfl
    obtain⟨u,r,l⟩:=hl p.2 p.1 v (hfr p hp).1 e3' (.inr (.inl (hfr p hp).2));refine⟨u,r,?_⟩;rcases l with⟨k,_⟩|⟨_,c,hc,z⟩
    ·rw[(hfr p hp).2]at k;cases k
    ·obtain⟨c',hc'⟩:=hkin p.1 (.inl (hvis p hp));have e4:=hcl _ _ hc';rw[hc]at e4;cases e4;obtain⟨o,ho,hd⟩:=z;exact .inr ⟨.inl (hvis p hp),c,hc',⟨o,kk _ _ ho,hd⟩⟩
 ·obtain⟨v,o,ho,hd⟩:=I.cell x c (hcl x c e);exact⟨v,o,kk _ _ ho,hd⟩
 ·show(fR own.length (fr.map (·.2)) σ).length=(own++fr.map (·.1)).length;simp[fR]
theorem sU{prog:Program}{w:World}{A:Around}{R:Result->Shared->Prop}{s:Shared}{elt target iter:Expr}{ifs:List Expr}{scope:Scope}{pos:Pos}{it acc:Value}{env:Env}(I:Nat->Shared->Prop)
  (turn:∀n s,I n s->wpAny (model prog w) A (pyNext it) (fun r s₁=>match r with
   |none=>R (.ok .next) s₁
   |some v=>wpAny (model prog w) A (letOwnedTupleGo target it v) (fun _ s₁'=>wpAny (model prog w) A (assign target env v) (fun _ s₂=>
    wpAny (model prog w) A (forIn ifs true fun c r=>if r=true then do let ok <-isTrue c env (eval c env);pure (ForInStep.yield ok)else pure (ForInStep.yield r)) (fun ok s₃=>
     if ok=true then wpAny (model prog w) A (eval elt env) (fun x s₄=>wpAny (model prog w) A (call (.builtin "list.append") [acc,x]) (fun _ s₅=>∃m,m<n/\I m s₅) (notedBy (model prog w) A env fun e s'=>R (.error e) s') s₄) (notedBy (model prog w) A env fun e s'=>R (.error e) s') s₃
     else ∃m,m<n/\I m s₃) (notedBy (model prog w) A env fun e s'=>R (.error e) s') s₂) (notedBy (model prog w) A env fun e s'=>R (.error e) s') s₁') (notedBy (model prog w) A env fun e s'=>R (.error e) s') s₁) (notedBy (model prog w) A env fun e s'=>R (.error e) s') s)
  (n:Nat) (h:I n s):
  codeAny (model prog w) A (.compLoop (.ListComp elt [⟨target,iter,ifs,0⟩] scope pos) 0 it acc env) R s:=by
 refine codeAny_loop rfl I (fun n s hI=>?_) n h;show wpAny _ A ((compTurn (.ListComp elt [⟨target,iter,ifs,0⟩] scope pos) 0 it acc env).onRaise (fun x=>do noteFrame x env;theTreesLotGoes x)) _ _ s;refine wpAny_noted ?_;rw[compTurn_list];refine Fl (wpAny_standAt (Fl (F8 (turn n s hI) (fun r s₁ h₁=>?_) fun _ _ h'=>h')));cases r with
 |none=>exact Fo h₁
 |some v=>
  refine Fl (F8 h₁ (fun _ s₁' h₁'=>?_) fun _ _ h'=>h');refine Fl (F8 h₁' (fun _ s₂ h₂=>Fl (F8 h₂ (fun ok s₃ h₃=>?_) fun _ _ h'=>h')) fun _ _ h'=>h');cases ok with
  |false=>exact Fo ⟨rfl,h₃⟩
  |true=>exact Fl (Fl (F8 h₃ (fun x s₄ h₄=>Fl (F8 h₄ (fun _ s₅ h₅=>Fo (Fo ⟨rfl,h₅⟩)) fun _ _ h'=>h')) fun _ _ h'=>h'))
theorem pA{elt tg iter:Expr}{ifs:List Expr}{scope:Scope}{pos:Pos}{g:TG}{tt:TT}{te:TE}{own:List Str}{fr:List (Str×Nat)}{cl:List (Str×Addr)}
  {pins:List (Addr×Obj)} {σ:St} {H:Hp} {s:Shared} {Q:VK} {it D:Addr} {fp:List Addr} {tn:Nat->Heap->Prop} {J:It} {W:Nat->Nat->List V->Hp->Prop} {m0:Nat} {RR:Value->Addr->Result->Shared->Prop}
  (hRR:∀(s6:Shared)(H5:Hp)(m:Str->Option Value),Inv X pins σ H5 s6->s6.heap.Ns s.heap.objs.size m->kF X pins H5 s.heap.objs.size->Q (.ref D) H5->RR (.ref D) s.heap.objs.size (.ok .next) s6)
  (hc:X.calm=true) (hkind:scope.kind=.function) (hnc:∀y∈scope.names,y.2≠ .cell)
  (hcl:∀x c,cl.lookup x=some c->X.env.cells.lookup x=some c)
  (hkin:∀x,((relabel scope X.env).names.lookup x=some .cell\/(relabel scope X.env).names.lookup x=some .free)->∃c,cl.lookup x=some c)
  (hfr:∀p∈fr,X.N[p.2]?=some p.1/\X.env.kindOf p.1=some .cell) (hvis:∀p∈fr,(relabel scope X.env).names.lookup p.1=some .cell)
  (hw:∀x σ H R,σ.length=own.length+fr.length->(∀(i:Nat),i<own.length->σ[i]?=some none)->g x σ H R->g x σ H fun σ2 H2=>Wk σ σ2/\R σ2 H2)
  (hg:∀C ex s H,PG (dz X (own++fr.map (·.1)) scope cl C ex s H) tg g)
  (ht:∀C ex s H,Ao (dz X (own++fr.map (·.1)) scope cl C ex s H) ifs tt)
  (he:∀C ex s H,PE (dz X (own++fr.map (·.1)) scope cl C ex s H) elt te)
  (I:Inv X pins σ H s) (T:Turn X.prog X.w X.K tg J fp it tn) (st:tn 0 s.heap) (hf:∀b∈fp,kF X pins H b) (w0:W 0 m0 [] H)
  (turn:∀i m acc H2,W i m acc H2->(J.stop i H2/\Q (.ref D) H2)\/(J.go i H2/\∃N:List V->Hp->Prop,(∀acc' H',N acc' H'->∃m',m'<m/\W (i+1) m' acc' H')/\∀x H3,J.yld i H2 x H3->g x (fR own.length (fr.map (·.2)) σ) H3 fun σ2 H4=>tt σ2 H4 fun b H5=>if b=true then te σ2 H5 fun y H6=>H6 D=some (.lst acc)/\acc.length<sizeLine/\N (acc++[y]) (upd H6 D (.lst (acc++[y])))else N acc H5)):
  wpAny (model X.prog X.w) X.A (newFunctionEnv scope X.env.globals cl [] X.env.qual none .none (some X.env)) (fun cenv s₄=>
   codeAny (model X.prog X.w) X.A (.compStart (.ListComp elt [⟨tg,iter,ifs,0⟩] scope pos) 0 (.ref it) (.ref D) {cenv with scope:=relabel scope X.env})
    (RR (.ref D) cenv.locals) s₄) X.xe s:=by
 have hlt:∀b∈fp,b<s.heap.objs.size:=fun b hb=>by obtain⟨o,e,_⟩:=T.obj 0 _ st b hb;exact FI e
 refine wpAny_newFunctionEnv hnc (by intro y hy;simp at hy) (fun h₁ hns hsb=>?_) hkind;have kk:∀b u,s.heap.get? b=some u->h₁.get? b=some u:=fun b u e=>(hsb.2 b (F4 (FI e))).trans (Fn _ e);have I4:Inv (dz X (own++fr.map (·.1)) scope cl s.heap.objs.size fp s H) [] (fR own.length (fr.map (·.2)) σ) H {s with heap:=h₁,toks:=s.toks+([]:List (Str×Value)).length}:=
  zB I hf hlt hkind hcl hkin hfr hvis hns kk
 have st4:tn 0 h₁:=T.keep _ _ _ st fun b _ o e=>kk b o e;have hσ:(fR own.length (fr.map (·.2)) σ).length=own.length+fr.length:=by simp[fR]
 have hσ0:∀(i:Nat),i<own.length->(fR own.length (fr.map (·.2)) σ)[i]?=some none:=fun i hi=>by unfold fR;rw[List.getElem?_append_left (by simpa using hi),List.getElem?_replicate,FH hi]
 have stat:∀{H':Hp},(∀b∈fp,H' b=none)->∀b∈fp,kF (dz X (own++fr.map (·.1)) scope cl s.heap.objs.size fp s H) [] H' b:=fun hn b hb=>⟨hn b hb,F4 (hlt b hb),fun z=>(FL.mp (I.stkSub b z)).elim (hf b hb).2.1 (hf b hb).2.2.1,.inl hb,fun x c e=>(hf b hb).2.2.2.2.1 x c (hcl x c e),fun p hp=>absurd (show p∈([]:List (Addr×Obj))from hp) (by simp)⟩
 have loop:∀s4:Shared,s4={s with heap:=h₁,toks:=s.toks+([]:List (Str×Value)).length}->
   codeAny (model X.prog X.w) X.A (.compLoop (.ListComp elt [⟨tg,iter,ifs,0⟩] scope pos) 0 (.ref it) (.ref D) (compEnvC scope cl s.heap.objs.size X.env))
    (RR (.ref D) s.heap.objs.size) s4:=by
  rintro s4 rfl;refine sU (fun n s'=>∃i acc H',Inv (dz X (own++fr.map (·.1)) scope cl s.heap.objs.size fp s H) [] (fR own.length (fr.map (·.2)) σ) H' s'/\tn i s'.heap/\(∀b∈fp,H' b=none)/\W i n acc H') ?_ m0
   ⟨0,[],H,I4,st4,fun b hb=>(hf b hb).1,w0⟩
  rintro n s5 ⟨i,acc,H5,I5,st5,fr5,w5⟩;rcases turn i n acc H5 w5 with⟨stop,q⟩|⟨go,N,hN,step⟩
  ·refine F8 (T.done (dz X (own++fr.map (·.1)) scope cl s.heap.objs.size fp s H) rfl rfl rfl hc i [] s5 _ H5 _ I5 (stat fr5) st5 stop) (fun r s6 ⟨hr,I6⟩=>?_) (fun _ _ z=>z);subst hr;obtain⟨m6,hn6,_⟩:=id I6.loc;have I7:Inv X pins σ H5 s6:=I.call' (ch:=fp) I6.os I6.base I6.hok I6.bare (fun b hb=>⟨(hf b hb).2.2.2.1,(hf b hb).2.1,(hf b hb).2.2.2.2.1,(hf b hb).2.2.2.2.2⟩);exact hRR s6 H5 m6 I7 hn6 (I.fpOk (H':=H5) (Fv _) I6.free) q
  ·refine F8 (T.item (dz X (own++fr.map (·.1)) scope cl s.heap.objs.size fp s H) rfl rfl rfl hc i [] s5 _ H5 _ I5 (stat fr5) st5 go) (fun r s6 hPz=>?_) (fun _ _ z=>z);obtain⟨u,hr,h6⟩:=hPz;subst hr;refine F8 h6 (fun _ s7 hPz=>?_) (fun _ _ z=>z);obtain⟨x,H7,I7,r7,y7,st7,fr7⟩:=hPz;have I7':=I7.pinned (stat fr7) (T.obj _ _ st7);refine F8 (hg s.heap.objs.size fp s H _ s7 _ H7 x u _ I7' r7 (hw x _ H7 _ hσ hσ0 (step x H7 y7))) (fun _ s8 hPz=>?_) (fun _ _ z=>False.elim z);obtain⟨σ8,H8,I8,wk,q8⟩:=hPz;have again:∀{s10:Shared}{H10:Hp}{acc':List V},Inv (dz X (own++fr.map (·.1)) scope cl s.heap.objs.size fp s H) ([]++jh fp s7.heap) σ8 H10 s10->N acc' H10->
     ∃m,m<n/\∃i acc H',Inv (dz X (own++fr.map (·.1)) scope cl s.heap.objs.size fp s H) [] (fR own.length (fr.map (·.2)) σ) H' s10/\tn i s10.heap/\(∀b∈fp,H' b=none)/\W i m acc H':=fun {s10 H10 acc'} I10 n10=>by
    obtain⟨m',hm,w10⟩:=hN acc' H10 n10;refine⟨m',hm,i+1,acc',H10,I10.unpinned.weak wk.1 wk.2,T.keep _ _ _ st7 fun b hb o e=>(I10.pin (b,o) (FX _ (FX _ (gA hb e)))).1,fun b hb=>?_,w10⟩;obtain⟨o,e,d⟩:=T.obj _ _ st7 b hb;exact(I10.pin (b,o) (FX _ (FX _ (gA hb e)))).2.1
   refine F8 (ht s.heap.objs.size fp s H _ s8 σ8 H8 _ I8 q8) (fun b s9 hPz=>?_) (fun _ _ z=>False.elim z);obtain⟨H9,I9,q9⟩:=hPz;cases b with
   |false=>exact again I9 q9
   |true=>refine F8 (he s.heap.objs.size fp s H _ s9 σ8 H9 _ I9 q9) (fun y s10 hPz=>?_) (fun _ _ z=>False.elim z);obtain⟨yv,H10,I10,r10,hD,hl,n10⟩:=hPz;refine F8 (dY (X:=dz X (own++fr.map (·.1)) scope cl s.heap.objs.size fp s H) _ s10 σ8 H10 (.ref D) [yv] (.ref D) [y] (fun _ H'=>H'=upd H10 D (.lst (acc++[yv]))) I10 rfl (.cons r10 .nil) ⟨D,acc,yv,rfl,rfl,hD,hl,rfl⟩) (fun _ s11 hPz=>?_) (fun _ _ z=>False.elim z);obtain⟨_,H11,I11,_,e11⟩:=hPz;subst e11;exact again I11 n10
 exact codeAny_compStart_list (loop _ rfl) (T.self _ 0 _ _ _ st4 (loop _ rfl))
theorem bI{elt tg iter:Expr}{ifs:List Expr}{scope:Scope}{pos:Pos}{wi:TI}{g:TG}{tt:TT}{te:TE}(own:List Str)(fr:List (Str×Nat))(cl:List (Str×Addr))
  (hc:X.calm=true) (hclos:closureFor scope X.env=pure cl) (hkind:scope.kind=.function) (hnc:∀y∈scope.names,y.2≠ .cell)
  (hnames:∀y∈scope.names,y.2=.local->scope.names.lookup y.1=some .local)
  (hcl:∀x c,cl.lookup x=some c->X.env.cells.lookup x=some c)
  (hkin:∀x,((relabel scope X.env).names.lookup x=some .cell\/(relabel scope X.env).names.lookup x=some .free)->∃c,cl.lookup x=some c)
  (hfr:∀p∈fr,X.N[p.2]?=some p.1/\X.env.kindOf p.1=some .cell) (hvis:∀p∈fr,(relabel scope X.env).names.lookup p.1=some .cell)
  (hw:∀x σ H R,σ.length=own.length+fr.length->(∀(i:Nat),i<own.length->σ[i]?=some none)->g x σ H R->g x σ H fun σ2 H2=>Wk σ σ2/\R σ2 H2)
  (hi:PI X tg iter wi)
  (hg:∀C ex s H,PG (dz X (own++fr.map (·.1)) scope cl C ex s H) tg g)
  (ht:∀C ex s H,Ao (dz X (own++fr.map (·.1)) scope cl C ex s H) ifs tt)
  (he:∀C ex s H,PE (dz X (own++fr.map (·.1)) scope cl C ex s H) elt te)
  (hs:∀x,foldedSetIterable iter X.env x=pure x:=by intro _;rfl):
  PE X (.ListComp elt [⟨tg,iter,ifs,0⟩] scope pos) (BZ wi g tt te own.length (fr.map (·.2))):=by
 intro pins s σ H Q I h;rw[eval_ListComp];refine wpAny_comprehension_free (use:=none) rfl hs hclos hkind hnames (thn (hi pins s σ H _ I h) fun v s1 h1=>thn h1 fun itv s2 h2=>?_);obtain⟨it,fp,tn,J,H2,e,I2,T,st2,f2,h2⟩:=h2;subst e;obtain⟨W,⟨m0,w0⟩,turn⟩:=h2 s2.heap.objs.size I2.fresh;have I3:=I2.lnew (its:=[]) (ys:=[]) (t':=s2.toks) .nil (F1 _);refine Gp (T:="list") ?_;refine pA (RR:=fun acc C=>compPost (model X.prog X.w) X.A X.xe none (EP X pins σ Q) acc C) (W:=W) (m0:=m0) (D:=s2.heap.objs.size) (own:=own) (fr:=fr)
  (fun s6 H5 m I7 hn fc q=>⟨m,hn,fun h7 sb=>⟨.ref s2.heap.objs.size,H5,I7.turned (t':=s6.toks) (fun b o hb e=>(sb.2 b hb).trans e) fc.1 fc.2.1 fc.2.2.2.1 fc.2.2.2.2.1 fc.2.2.2.2.2,rfl,q⟩⟩) hc hkind hnc hcl hkin hfr hvis hw hg ht he I3 T (T.keep _ _ _ st2 fun b _ o e=>Fn _ e) (fun b hb=>?_) w0 turn
 obtain⟨o,e,_⟩:=T.obj _ _ st2 b hb;exact⟨by rw[au (F4 (FI e))];exact(f2 b hb).1,(f2 b hb).2⟩
theorem jx{elt tg iter:Expr}{ifs:List Expr}{scope:Scope}{pos spos py:Pos}{y:Str}{i:Nat}{wi:TI}{g:TG}{tt:TT}{te:TE}(hN:X.N.Nodup)(hiy:X.N[i]?=some y)(hy:Loc X.env.scope y)(own:List Str)(fr:List (Str×Nat))(cl:List (Str×Addr))
  (hc:X.calm=true) (hclos:closureFor scope X.env=pure cl) (hkind:scope.kind=.function) (hnc:∀y∈scope.names,y.2≠ .cell)
  (hnames:∀y∈scope.names,y.2=.local->scope.names.lookup y.1=some .local)
  (hcl:∀x c,cl.lookup x=some c->X.env.cells.lookup x=some c)
  (hkin:∀x,((relabel scope X.env).names.lookup x=some .cell\/(relabel scope X.env).names.lookup x=some .free)->∃c,cl.lookup x=some c)
  (hfr:∀p∈fr,X.N[p.2]?=some p.1/\X.env.kindOf p.1=some .cell) (hvis:∀p∈fr,(relabel scope X.env).names.lookup p.1=some .cell)
  (hw:∀x σ H R,σ.length=own.length+fr.length->(∀(i:Nat),i<own.length->σ[i]?=some none)->g x σ H R->g x σ H fun σ2 H2=>Wk σ σ2/\R σ2 H2)
  (hi:PI X tg iter wi)
  (hg:∀C ex s H,PG (dz X (own++fr.map (·.1)) scope cl C ex s H) tg g)
  (ht:∀C ex s H,Ao (dz X (own++fr.map (·.1)) scope cl C ex s H) ifs tt)
  (he:∀C ex s H,PE (dz X (own++fr.map (·.1)) scope cl C ex s H) elt te)
  (hsw:swapsWith (.ListComp elt [⟨tg,iter,ifs,0⟩] scope pos) (some (.Name y py)) spos.line X.env=pure true:=by rfl)
  (hs:∀x,foldedSetIterable iter X.env x=pure x:=by intro _;rfl)
  (hf:X.fn y=true\/X.env.scope.names.lookup y=some .local:=by first|exact .inl rfl|exact .inr rfl|assumption):
  PS X (.Assign [.Name y py] (.ListComp elt [⟨tg,iter,ifs,0⟩] scope pos) spos) (Cs (BZ wi g tt te own.length (fr.map (·.2))) (qM i)):=by
 intro pins s σ H D I h;rw[exec_Assign_Name_used _ _ _ _ hsw];refine Fl (wpAny_standAt (Fl ?_));show wpAny _ _ (do let _ <-comprehension (.ListComp elt [⟨tg,iter,ifs,0⟩] scope pos) scope X.env _ (newList []) false (eval iter X.env) (some (assign (.Name y py) X.env))) _ _ s;refine Fl (F8 (wpAny_comprehension_free (use:=some (assign (.Name y py) X.env)) (Q:=fun _ s'=>SP X pins D .next s') rfl hs hclos hkind hnames (thn (hi pins s σ H _ I h) fun v s1 h1=>thn h1 fun itv s2 h2=>?_)) (fun _ s' hq=>Fo (Fo hq)) fun _ _ e=>e);obtain⟨it,fp,tn,J,H2,e,I2,T,st2,f2,h2⟩:=h2;subst e;obtain⟨W,⟨m0,w0⟩,turn⟩:=h2 s2.heap.objs.size I2.fresh;have I3:=I2.lnew (its:=[]) (ys:=[]) (t':=s2.toks) .nil (F1 _);refine Gp (T:="list") ?_;refine pA (Q:=fun v H5=>qM i v σ H5 D.nx) (RR:=fun acc C=>compPost (model X.prog X.w) X.A X.xe (some (assign (.Name y py) X.env)) (fun _ s'=>SP X pins D .next s') acc C) (W:=W) (m0:=m0) (D:=s2.heap.objs.size) (own:=own) (fr:=fr)
  (fun s6 H5 m I7 hn fc q=>?_) hc hkind hnc hcl hkin hfr hvis hw hg ht he I3 T (T.keep _ _ _ st2 fun b _ o e=>Fn _ e) (fun b hb=>?_) w0 turn
 ·show wpAny _ _ (assign (.Name y py) X.env (.ref s2.heap.objs.size)) _ _ _;refine wpAny_assign_Name (qq (v:=.ref s2.heap.objs.size) I7 hN hiy hy rfl (fun s' I' hsb=>?_) hf);obtain⟨a,sb,ha⟩:=hsb;have hne:s2.heap.objs.size+1≠a\/True:=.inr trivial;have hCa:a≠({s2 with heap:=s2.heap.push {cls:=.type "list",data:=.seq ([]:List Value).toArray},toks:=s2.toks}:Shared).heap.objs.size:=by
   rcases ha with rfl|ha
   ·exact GR fc.2.1
   ·exact fc.2.2.2.2.1 y a ha
  refine⟨m,hn.sameBut sb (GR hCa),fun h7 sb7=>?_⟩;exact⟨_,H5,I'.turned (t':=s'.toks) (fun b o hb e=>(sb7.2 b hb).trans e) fc.1 fc.2.1 fc.2.2.2.1 fc.2.2.2.2.1 fc.2.2.2.2.2,q⟩
 ·obtain⟨o,e,_⟩:=T.obj _ _ st2 b hb;exact⟨by rw[au (F4 (FI e))];exact(f2 b hb).1,(f2 b hb).2⟩
noncomputable def fb(env:Env)(xs:List Str):List (Str×Addr):=xs.map fun x=>(x,(env.cells.lookup x).getD 0)
noncomputable def B8(names:List (Str×NameKind))(xs:List Str):Bool:=names.all fun p=>(!(decide (p.2=.cell))&& !(decide (p.2=.free)))||decide (p.1∈xs)
theorem nN{env:Env}:∀{xs:List Str}{x:Str},x∈xs->∃c,(fb env xs).lookup x=some c
 | [],_,h=>absurd h (by simp)
 |y::xs,x,h=>by
  show ∃c,List.lookup x ((y,(env.cells.lookup y).getD 0)::fb env xs)=some c;rw[List.lookup_cons];cases e:x==y with
  |true=>exact⟨_,rfl⟩
  |false=>
   rcases FL.mp h with rfl|h
   ·rw[beq_self_eq_true]at e;cases e
   ·exact nN h
theorem aP{env:Env}:∀{xs:List Str},(xs.all fun x=>(env.cells.lookup x).isSome)=true->∀x c,(fb env xs).lookup x=some c->env.cells.lookup x=some c
 | [],_,x,c,h=>by cases h
 |y::xs,ha,x,c,h=>by
  rw[List.all_cons,Bool.and_eq_true]at ha;have h':List.lookup x ((y,(env.cells.lookup y).getD 0)::fb env xs)=some c:=h;rw[List.lookup_cons]at h';cases e:x==y with
  |true=>
   rw[e]at h';have exy:x=y:=eq_of_beq e;subst exy;have hc:(env.cells.lookup x).getD 0=c:=F0 h';cases q:env.cells.lookup x with
   |none=>rw[q]at ha;cases ha.1
   |some z=>rw[q]at hc;rw[<-hc];rfl
  |false=>rw[e]at h';exact aP ha.2 x c h'
theorem b8{names:List (Str×NameKind)}{xs:List Str}{env:Env}(h:B8 names xs=true):∀x,(names.lookup x=some .cell\/names.lookup x=some .free)->∃c,(fb env xs).lookup x=some c:=fun x hx=>by
 refine nN ?_;unfold B8 at h;rw[List.all_eq_true]at h;rcases hx with hx|hx
 ·have:=h _ (PySem.mem_of_lookup hx);simpa using this
 ·have:=h _ (PySem.mem_of_lookup hx);simpa using this
theorem bu{n m i:Nat}(hi:i<n):∀x σ H R,σ.length=n+m->(∀(k:Nat),k<n->σ[k]?=some none)->qM i x σ H R->qM i x σ H fun σ2 H2=>Wk σ σ2/\R σ2 H2:=fun x σ H R _ h0 h=>
 ⟨⟨by simp,fun k v e=>by
  by_cases hk:k=i
  ·subst hk;rw[h0 _ hi]at e;cases e
  ·rw[List.getElem?_set_ne (GR hk)];exact e⟩,h⟩
theorem vK{n:Nat}{g:TG}{tt:TT}{te:TE}{σ0:St}{lo:Int}{Q:VK}{D:Addr}{H:Hp}(Pv:Nat->List V->Hp->Prop)(h0:Pv 0 [] H)
  (hs:∀i acc H2,i<n->Pv i acc H2->g (.int (lo+i)) σ0 H2 fun σ2 H4=>tt σ2 H4 fun b H5=>if b=true then te σ2 H5 fun y H6=>H6 D=some (.lst acc)/\acc.length<sizeLine/\Pv (i+1) (acc++[y]) (upd H6 D (.lst (acc++[y])))else Pv (i+1) acc H5)
  (hd:∀acc H2,Pv n acc H2->Q (.ref D) H2):
  ∃W:Nat->Nat->List V->Hp->Prop,(∃m,W 0 m [] H)/\∀i m acc H2,W i m acc H2->
   ((Itr lo n).stop i H2/\Q (.ref D) H2)\/((Itr lo n).go i H2/\∃N:List V->Hp->Prop,(∀acc' H',N acc' H'->∃m',m'<m/\W (i+1) m' acc' H')/\∀x H3,(Itr lo n).yld i H2 x H3->g x σ0 H3 fun σ2 H4=>tt σ2 H4 fun b H5=>if b=true then te σ2 H5 fun y H6=>H6 D=some (.lst acc)/\acc.length<sizeLine/\N (acc++[y]) (upd H6 D (.lst (acc++[y])))else N acc H5):=by
 refine⟨fun i m acc H=>m=n-i/\i<=n/\Pv i acc H,⟨n,by simp,F1 _,h0⟩,?_⟩;rintro i m acc H2 ⟨rfl,hi,p⟩;by_cases hlt:i<n
 ·refine .inr ⟨hlt,Pv (i+1),fun acc' H' p'=>⟨n-(i+1),by omega,rfl,hlt,p'⟩,fun x H3 y=>?_⟩;obtain⟨e,y⟩:=y;subst e y;exact hs i acc _ hlt p
 ·have e:i=n:=by omega
  subst e;exact .inl ⟨Fv _,hd acc H2 p⟩
theorem ye{K:Frag}{a:Addr}{xs:List V}{g:TG}{tt:TT}{te:TE}{σ0:St}{Q:VK}{D:Addr}{H:Hp}(Pv:Nat->List V->Hp->Prop)(h0:Pv 0 [] H)(hl:∀i acc H,i<=xs.length->Pv i acc H->SqL K H a xs)
  (hs:∀i x acc H2,xs[i]?=some x->Pv i acc H2->g x σ0 H2 fun σ2 H4=>tt σ2 H4 fun b H5=>if b=true then te σ2 H5 fun y H6=>H6 D=some (.lst acc)/\acc.length<sizeLine/\Pv (i+1) (acc++[y]) (upd H6 D (.lst (acc++[y])))else Pv (i+1) acc H5)
  (hd:∀acc H2,Pv xs.length acc H2->Q (.ref D) H2):
  ∃W:Nat->Nat->List V->Hp->Prop,(∃m,W 0 m [] H)/\∀i m acc H2,W i m acc H2->
   ((Itl K a).stop i H2/\Q (.ref D) H2)\/((Itl K a).go i H2/\∃N:List V->Hp->Prop,(∀acc' H',N acc' H'->∃m',m'<m/\W (i+1) m' acc' H')/\∀x H3,(Itl K a).yld i H2 x H3->g x σ0 H3 fun σ2 H4=>tt σ2 H4 fun b H5=>if b=true then te σ2 H5 fun y H6=>H6 D=some (.lst acc)/\acc.length<sizeLine/\N (acc++[y]) (upd H6 D (.lst (acc++[y])))else N acc H5):=by
 refine⟨fun i m acc H=>m=xs.length-i/\i<=xs.length/\Pv i acc H,⟨xs.length,by simp,F1 _,h0⟩,?_⟩;rintro i m acc H2 ⟨rfl,hi,p⟩;have q:=hl i acc H2 hi p;by_cases hlt:i<xs.length
 ·refine .inr ⟨⟨xs,xs[i],q,by simp[hlt]⟩,Pv (i+1),fun acc' H' p'=>⟨xs.length-(i+1),by omega,rfl,hlt,p'⟩,fun x H3 y=>?_⟩;obtain⟨e,y⟩:=y;subst e;exact hs i x acc _ (y xs q) p
 ·have e:i=xs.length:=by omega
  subst e;exact .inl ⟨⟨xs,q,Fv _⟩,hd acc H2 p⟩
end
mutual
inductive IsD(K:Frag)(H:Hp):PyData->V->Prop
 |non:IsD K H .none .non
 |bl (b:Bool):IsD K H (.bool b) (.bl b)
 |int (i:Int):IsD K H (.int i) (.int i)
 |str (x:Str):IsD K H (.str x) (.str x)
 |tup {a:Addr} {vs:List V} {ds:List PyData}:SqT K H a vs->d5 K H ds vs->IsD K H (.tuple ds) (.ref a)
 |lst {a:Addr} {vs:List V} {ds:List PyData}:SqL K H a vs->d5 K H ds vs->IsD K H (.list ds) (.ref a)
inductive d5(K:Frag)(H:Hp):List PyData->List V->Prop
 |nil:d5 K H [] []
 |cons {d:PyData} {v:V} {ds:List PyData} {vs:List V}:IsD K H d v->d5 K H ds vs->d5 K H (d::ds) (v::vs)
end
section
variable{X:Cx}{pins:List (Addr×Obj)}{σ:St}{H:Hp}{s:Shared}
mutual
theorem IsD.reads(I:Inv X pins σ H s):∀{d:PyData}{v:V}{u:Value},IsD X.K H d v->RelV v u->∃as,Reads s.heap u d as
 |_,_,_,.non,r=>by cases r;exact⟨_,.none⟩
 |_,_,_,.bl b,r=>by cases r;exact⟨_,.bool b⟩
 |_,_,_,.int i,r=>by obtain⟨t,rfl⟩:=r;exact⟨_,.int i t⟩
 |_,_,_,.str x,r=>by obtain⟨t,rfl⟩:=r;exact⟨_,.str x t⟩
 |_,_,_,.tup h1 h2,r=>by cases r;obtain⟨its,rv,⟨o,e,c,n,d⟩,hz⟩:=I.tuple h1;obtain⟨as,ra⟩:=d5.reads I h2 rv;exact⟨_,.tuple e c d (by simpa using ra)⟩
 |_,_,_,.lst h1 h2,r=>by cases r;obtain⟨its,rv,pl,hz⟩:=I.list h1;obtain⟨o,e,c,n,d⟩:=pl.isList;obtain⟨as,ra⟩:=d5.reads I h2 rv;exact⟨_,.list e c d (by simpa using ra)⟩
theorem d5.reads(I:Inv X pins σ H s):∀{ds:List PyData}{vs:List V}{us:List Value},d5 X.K H ds vs->Vals vs us->∃as,ReadsAll s.heap us ds as
 |_,_,_,.nil,.nil=>⟨_,.nil⟩
 |_,_,_,.cons h t,.cons r rs=>by obtain⟨as,ra⟩:=IsD.reads I h r;obtain⟨bs,rb⟩:=d5.reads I t rs;exact⟨_,.cons ra rb⟩
end
noncomputable def E4(K:Frag):R2:=fun x y H Q=>∃d1 d2,IsD K H d1 x/\IsD K H d2 y/\d1.canLay0=true/\d2.canLay0=true/\d2.depth<=50/\Q (.bl (PyData.eqv d1 d2)) H
noncomputable def E1(K:Frag):R2:=fun x y H Q=>∃d1 d2,IsD K H d1 x/\IsD K H d2 y/\d1.canLay0=true/\d2.canLay0=true/\d2.depth<=50/\Q (.bl (!PyData.eqv d1 d2)) H
theorem rN(hu:X.A.units+64<cLine):OpR X (compareOp .Eq) (E4 X.K):=by intro pins s σ H x y v u Q I rx ry h;obtain⟨d1,d2,h1,h2,c1,c2,hd,q⟩:=h;obtain⟨as,ra⟩:=IsD.reads I h1 rx;obtain⟨bs,rb⟩:=IsD.reads I h2 ry;exact SeqAt.rcAt_reads ra rb c1 c2 (by lia) _ _ _ _ (show EP X pins σ Q _ s from⟨.bl _,H,I,rfl,q⟩)
theorem ze(hu:X.A.units+64<cLine):OpR X (compareOp .NotEq) (E1 X.K):=by intro pins s σ H x y v u Q I rx ry h;obtain⟨d1,d2,h1,h2,c1,c2,hd,q⟩:=h;obtain⟨as,ra⟩:=IsD.reads I h1 rx;obtain⟨bs,rb⟩:=IsD.reads I h2 ry;exact SeqAt.rcNeAt_reads ra rb c1 c2 (by omega) _ _ _ _ (show EP X pins σ Q _ s from⟨.bl _,H,I,rfl,q⟩)
theorem oK:OpR X (binaryOp .FloorDiv) (rI (fun _ j=>0<j/\j.natAbs.log2<9000) fun i j=>.int (i / j)):=opI fun i j _ _ _ _ _ hc q=>by have h1:(0:Int)<j:=hc.1;exact floordiv_int (by omega) (by rw[Int.fdiv_eq_ediv_of_nonneg i (by omega)];exact q) (.inl (PyProof.noPylong_of_log2 hc.2))
def Ec:V->List V->Hp->VK->Prop:=fun x xs H Q=>∃i,x=.int i/\xs=[]/\Q (.int (Builtin.Int.intBits i:Nat)) H
theorem Bj:MtR X "int.bit_length" Ec:=by intro pins s σ H x xs v us Q I rx rv h;obtain⟨i,rfl,rfl,q⟩:=h;cases rv;obtain⟨t,rfl⟩:=rx;exact call_int_bit_length ⟨.int _,H,I.tok _,⟨_,rfl⟩,q⟩
def D7(K:Frag):List V->Hp->VK->Prop:=fun xs H Q=>∃x n t b,xs=[x,.ty n]/\gI K H x t/\kitOne K t (.type n)=some b/\Q (.bl b) H
theorem pH:fh X (.builtin "isinstance") (D7 X.K):=by
 intro pins s σ H xs us Q I rs h;obtain⟨x,n,t,b,rfl,ty,e,q⟩:=h;cases rs with
 |cons r rr=>
  cases rr with
  |cons r2 rr=>cases rr;cases r2;exact xY I r ty e fun tk=>⟨.bl b,H,I.tok _,rfl,q⟩
structure Df(P:Program)(w:World)(K:Frag)(mg:Str->Option Value)(base:Heap)(k:Nat)(x:Str)(ps:List Str)(sp:Sp):Prop where
 ex:∃f fd,gK P w K mg base CX0 k f fd ps sp/\Binds K fd ps []/\mg x=some (.ref f)/\keepIn K (.ref f)=true
structure Tx(K:Frag)(mg:Str->Option Value)(x:Str)(st:Stmt)(ps:List Str):Prop where
 ex:∃f fd,Fun K x x st f fd/\Binds K fd ps []/\mg x=some (.ref f)
theorem Tx.df{P:Program}{w:World}{K:Frag}{mg:Str->Option Value}{base:Heap}{x:Str}{st:Stmt}{N ps:List Str}{k:Nat}{sp:Sp}(T:Tx K mg x st ps)(S:aB N ps (ao st))
  (len:∀vs H Q E,sp vs H Q E->vs.length=ps.length)
  (hbody:∀(f:Addr)(cdv:Value)(A:Around)(outer:List Env)(s:Shared)(H:Hp)(vs:List V)(Q:VK)(E:XK),cA k (A.deeper (envOfC x (ao st) s.heap.objs.size f cdv))->sp vs H Q E->
   ∃t,PSs (gN CX0 P w K mg base N x (ao st) f cdv A outer s H E).nox (bA st) t/\t {nx:=fun _ H'=>Q .non H',rt:=Q} (start N vs) H):Df P w K mg base (k+1) x ps sp:=by
 obtain⟨f,fd,F,b,hm⟩:=T.ex;exact⟨f,fd,F.ok S len fun cdv A outer s H vs Q E hr h=>hbody f cdv A outer s H vs Q E hr h,b,hm,F.kp⟩
def tCF(sp:Sp)(t:TA):TE:=fun σ H Q=>t σ H fun vs H1=>sp vs H1 Q E0
theorem aA{j k:Nat}{x:Str}{ps:List Str}{sp:Sp}{p pos:Pos}{e:Expr}{es:List Expr}{t:TA}(D:Df X.prog X.w X.K X.mg X.base j x ps sp)(hr:cA k X.A)(ha:PA X (e::es) t)(hg:Gl X x:=by rfl)(hj:j<=k:=by decide)
  (hdb:(x==("__debug__":Str))=false:=by decide) (he:starEach (e::es) X.env=(false,eval e X.env)::starEach es X.env:=by rfl) (hpl:(backTo pos (starEach es X.env)).any (·.1)=false:=by rfl):
  PE X (.Call (.Name x p) (e::es) [] pos) (tCF sp t):=by
 obtain⟨f,fd,F,b,hm,kp⟩:=D.ex;have h:=wA (ds:=[]) (dvs:=[]) (E:=E0) (p:=p) (pos:=pos) F (hr.mono hj) hg hm kp b .nil tZ ha hdb he hpl;have e1:m4 sp [] E0 t=tCF sp t:=by funext σ H Q;unfold m4 tCF;simp only[F3]
 rw[e1]at h;exact h
structure Bn(mg:Str->Option Value):Prop where
 len:mg "len"=none
 range:mg "range"=none
 isinstance:mg "isinstance"=none
 int:mg "int"=none
 bool:mg "bool"=none
 list:mg "list"=none
 tuple:mg "tuple"=none
 str:mg "str"=none
 dict:mg "dict"=none
 sorted:mg "sorted"=none
 enumerate:mg "enumerate"=none
 min:mg "min"=none
 max:mg "max"=none
 set:mg "set"=none
theorem ak.upd{H:Hp}{a:Addr}{o:HO}(h:H a=none):ak H (upd H a o):=fun b u e=>by rw[au (cZ e h)];exact e
theorem ak.tup{K:Frag}{H H':Hp}{a:Addr}{xs:List V}(e:ak H H')(h:SqT K H a xs):SqT K H' a xs:=by
 rcases h with(h|⟨o,h⟩)|h
 ·exact .inl (.inl (e _ _ h))
 ·exact .inl (.inr ⟨o,e _ _ h⟩)
 ·exact .inr h
end
theorem DG{K:Frag}{h:Heap}{mg:Str->Option Value}{x:Str}{st:Stmt}{ps:List Str}{f:Addr}{oc:Value}{od an:Option Addr}{osl:Array (Option Value)}{kV doc pm cdv ct:Value}(X:K.In h)(G:h.Ns mainGlobals mg)
  (a:nsIn K mainGlobals x=some (some (.ref f)))
  (l:K.lookup f=some ⟨oc,od,.func (fnOf x x (cF st) (bA st) (ao st) .none kV doc pm an cdv ct),osl⟩)
  (c:codeIn K cdv x=true) (k:keepIn K (.ref f)=true)
  (hb:∀(kV doc pm:Value)(an:Option Addr)(cdv ct:Value)(us:List Value),us.length=ps.length->bindArgs (fnOf x x (cF st) (bA st) (ao st) .none kV doc pm an cdv ct) ⟨us,[]⟩=pure (ps.zip us)):Tx K mg x st ps:=
 ⟨f,_,ph l c k,(ph l c k).binds hb,PySem.W.mg_of X G a⟩
theorem Ez{K:Frag}{h:Heap}{mg:Str->Option Value}(X:K.In h)(G:h.Ns mainGlobals mg)
  (z0:nsIn K mainGlobals "len"=some none) (z1:nsIn K mainGlobals "range"=some none) (z2:nsIn K mainGlobals "isinstance"=some none)
  (z3:nsIn K mainGlobals "int"=some none) (z4:nsIn K mainGlobals "bool"=some none) (z5:nsIn K mainGlobals "list"=some none) (z6:nsIn K mainGlobals "tuple"=some none)
  (z7:nsIn K mainGlobals "str"=some none) (z8:nsIn K mainGlobals "dict"=some none) (z9:nsIn K mainGlobals "sorted"=some none) (z10:nsIn K mainGlobals "enumerate"=some none)
  (z11:nsIn K mainGlobals "min"=some none) (z12:nsIn K mainGlobals "max"=some none) (z13:nsIn K mainGlobals "set"=some none):Bn mg:=
 ⟨Ge X G z0,Ge X G z1,Ge X G z2,Ge X G z3,Ge X G z4,Ge X G z5,Ge X G z6,Ge X G z7,Ge X G z8,Ge X G z9,Ge X G z10,Ge X G z11,Ge X G z12,Ge X G z13⟩
def DO(t u:TS):TS:=fun D σ H=>∃R:St->Hp->Prop,t {D with nx:=R} σ H/\∀σ' H',R σ' H'->u D σ' H'
theorem bF{X:Cx}{st:Stmt}{rest:List Stmt}{t u:TS}(h1:PS X st t)(h2:PSs X rest u):PSs X (st::rest) (DO t u):=by
 intro pins s σ H D I h;obtain⟨R,h,hR⟩:=h;refine wpAny_execs_cons (thn (h1 pins s σ H {D with nx:=R} I h) fun f s1 q=>?_);cases f with
 |next=>obtain⟨σ',H',I',q⟩:=q;exact h2 pins s1 σ' H' D I' (hR σ' H' q)
 |ret v=>exact q
 |brk=>exact q
 |cont=>exact q
theorem aF{n:Nat}(h:Nat.ble n 1000=true):n<=sizeLine:=FW (FF h) (by decide)
end L2
namespace LM
noncomputable def d6(w h k:Nat):List Nat:=
 (if 0<k / w then[k-w]else[])++((if 0<k % w then[k-1]else[])++((if k % w+1<w then[k+1]else[])++(if k / w+1<h then[k+w]else[])))
theorem mL{w h k j:Nat}:j∈d6 w h k<->(0<k / w/\j=k-w)\/(0<k % w/\j=k-1)\/(k % w+1<w/\j=k+1)\/(k / w+1<h/\j=k+w):=by unfold d6;by_cases h1:0<k / w<;>by_cases h2:0<k % w<;>by_cases h3:k % w+1<w<;>by_cases h4:k / w+1<h<;>simp[h1,h2,h3,h4]
theorem Bi{w h k j:Nat}(hw:0<w)(hk:k<w*h)(hj:j∈d6 w h k):j<w*h:=by
 have e:w*(k / w)+k % w=k:=Nat.div_add_mod k w;have r:k % w<w:=Nat.mod_lt k hw;have q:k / w<h:=(Nat.div_lt_iff_lt_mul hw).mpr (by rw[Nat.mul_comm];exact hk);rcases mL.mp hj with⟨_,rfl⟩|⟨_,rfl⟩|⟨h3,rfl⟩|⟨h4,rfl⟩
 ·omega
 ·omega
 ·have:w*(k / w+1)<=w*h:=Nat.mul_le_mul_left w q;rw[Nat.mul_add]at this;omega
 ·have:w*(k / w+1+1)<=w*h:=Nat.mul_le_mul_left w h4;rw[Nat.mul_add,Nat.mul_add]at this;omega
theorem zi(w h k:Nat):(d6 w h k).length<=4:=by unfold d6;by_cases h1:0<k / w<;>by_cases h2:0<k % w<;>by_cases h3:k % w+1<w<;>by_cases h4:k / w+1<h<;>simp[h1,h2,h3,h4]
noncomputable def gx(a:Nat)(js:List Nat):Nat:=js.foldl (fun a j=>a||| 2^j) a
theorem length_le_of_subset{α:Type}[DecidableEq α]:∀{l1 l2:List α},l1.Nodup->(∀x∈l1,x∈l2)->l1.length<=l2.length
 | [],_,_,_=>F1 _
 |x::l1,l2,nd,h=>by
  obtain⟨nx,nd⟩:=Gv.mp nd;have hx:x∈l2:=h x Fw;have ih:=length_le_of_subset (l1:=l1) (l2:=l2.erase x) nd fun y hy=>by have hne:y≠x:=fun e=>nx (e▸hy);exact(List.mem_erase_of_ne hne).mpr (h y (Ft _ hy))
  rw[List.length_erase_of_mem hx]at ih;have:=List.length_pos_of_mem hx;rw[FV];omega
theorem qI{w h k j:Nat}(hw:0<w)(hk:k<w*h)(hj:j∈d6 w h k):k∈d6 w h j:=by
 have e:w*(k / w)+k % w=k:=Nat.div_add_mod k w;have r:k % w<w:=Nat.mod_lt k hw;have q:k / w<h:=(Nat.div_lt_iff_lt_mul hw).mpr (by rw[Nat.mul_comm];exact hk);rw[mL];rcases mL.mp hj with⟨h1,rfl⟩|⟨h2,rfl⟩|⟨h3,rfl⟩|⟨h4,rfl⟩
 ·have hwk:w<=k:=by
   have:=Nat.mul_le_mul_left w h1
   lia
  have ed:(k-w) / w=k / w-1:=by
   have:k=(k-w)+w:=(by omega);have e2:k / w=(k-w) / w+1:=by
    conv=>lhs;rw[this]
    exact Nat.add_div_right _ hw
   lia
  refine .inr (.inr (.inr ⟨by rw[ed];omega,by omega⟩))
 ·have e3:(k-1) % w=k % w-1:=by
   have:k-1=w*(k / w)+(k % w-1):=(by lia);rw[this,Nat.mul_add_mod];exact Nat.mod_eq_of_lt (by omega)
  refine .inr (.inr (.inl ⟨by rw[e3];omega,by lia⟩))
 ·have e3:(k+1) % w=k % w+1:=by
   have:k+1=w*(k / w)+(k % w+1):=(by lia);rw[this,Nat.mul_add_mod];exact Nat.mod_eq_of_lt (by lia)
  refine .inr (.inl ⟨by rw[e3];lia,by lia⟩)
 ·have ed:(k+w) / w=k / w+1:=Nat.add_div_right k hw;exact .inl ⟨by rw[ed];exact Nat.succ_pos _,by lia⟩
noncomputable def zk(w h k:Int):List Int:=
 (if decide (0<k / w)=true then[k-w]else[])++((if decide (0<k % w)=true then[k-1]else[])++((if decide (k % w<w-1)=true then[k+1]else[])++(if decide (k / w<h-1)=true then[k+w]else[])))
theorem zj(w h k:Nat):zk w h k=(d6 w h k).map fun j:Nat=>(j:Int):=by
 unfold zk d6;have e1:((k:Int) / (w:Int))=((k / w:Nat):Int):=(Int.natCast_ediv k w).symm;have e2:((k:Int) % (w:Int))=((k % w:Nat):Int):=(Int.natCast_emod k w).symm;have q1:0<k / w->w<=k:=fun h=>by
  rcases Nat.lt_or_ge k w with q|q
  ·rw[Nat.div_eq_of_lt q]at h;lia
  ·exact q
 have q2:0<k % w->1<=k:=fun h=>by
  rcases Nat.eq_zero_or_pos k with q|q
  ·subst q;simp at h
  ·exact q
 rw[e1,e2];have b1:(if decide ((0:Int)<((k / w:Nat):Int))=true then[(k:Int)-w]else[])=(if 0<k / w then[k-w]else[]).map fun j:Nat=>(j:Int):=by
  by_cases h:0<k / w
  ·have:=q1 h;rw[FH (by rw[Gj];omega),FH h,Gy];congr 1;lia
  ·rw[FA (by rw[Gj];omega),FA h];rfl
 have b2:(if decide ((0:Int)<((k % w:Nat):Int))=true then[(k:Int)-1]else[])=(if 0<k % w then[k-1]else[]).map fun j:Nat=>(j:Int):=by
  by_cases h:0<k % w
  ·have:=q2 h;rw[FH (by rw[Gj];omega),FH h,Gy];congr 1;lia
  ·rw[FA (by rw[Gj];omega),FA h];rfl
 have b3:(if decide (((k % w:Nat):Int)<(w:Int)-1)=true then[(k:Int)+1]else[])=(if k % w+1<w then[k+1]else[]).map fun j:Nat=>(j:Int):=by
  by_cases h:k % w+1<w
  ·rw[FH (by rw[Gj];lia),FH h,Gy];congr 1
  ·rw[FA (by rw[Gj];lia),FA h];rfl
 have b4:(if decide (((k / w:Nat):Int)<(h:Int)-1)=true then[(k:Int)+w]else[])=(if k / w+1<h then[k+w]else[]).map fun j:Nat=>(j:Int):=by
  by_cases hh:k / w+1<h
  ·rw[FH (by rw[Gj];lia),FH hh,Gy];congr 1
  ·rw[FA (by rw[Gj];lia),FA hh];rfl
 rw[b1,b2,b3,b4];simp only[FN]
end LM
namespace My
open PySem L2 LM PyProof.Rows
theorem kC(a b:Nat):Builtin.bitAnd (a:Int) (b:Int)=((a&&& b:Nat):Int):=by rw[bitAnd_pp (by omega) (by omega)];simp only[Gg]
theorem Dh(c:Nat)(k:Int)(h:0<=k):decide (V.int (Builtin.bitAnd ((c:Int) / 2^k.toNat) 1)=V.int 1)=(decide (0<=k)&&c.testBit k.toNat):=by
 have e:(c:Int) / 2^k.toNat=((c / 2^k.toNat:Nat):Int):=by rw[Int.natCast_ediv,Int.natCast_pow];rfl
 have e2:Builtin.bitAnd ((c:Int) / 2^k.toNat) 1=((c / 2^k.toNat % 2:Nat):Int):=by rw[e];exact(kC _ 1).trans (by rw[Nat.and_one_is_mod])
 rw[e2,Nat.testBit_eq_decide_div_mod_eq,FQ h,Bool.true_and,Bool.eq_iff_iff,Gj,Gj];constructor
 ·intro z;have:=V.int.inj z
  lia
 ·intro z;rw[z];rfl
theorem zE{l:List Nat}{i:Nat}{y:V}(h:((l.map fun k:Nat=>(k:Int)).map V.int)[i]?=some y):∃k,l[i]?=some k/\y=V.int (k:Int):=by
 rw[FO,FO]at h;cases e:l[i]? with
 |none=>rw[e]at h;cases h
 |some k=>rw[e]at h;exact⟨k,rfl,(F0 h).symm⟩
theorem jf(j:Nat):(1:Int)*2^((j:Int)).toNat=((2^j:Nat):Int):=by rw[Int.one_mul,Gg,Int.natCast_pow];rfl
theorem qP(a b:Nat):Builtin.bitOr (a:Int) (b:Int)=((a|||b:Nat):Int):=by
 have h:=nat_or_add_and a b;rw[bitOr_and,bitAnd_pp (by lia) (by omega)];simp only[Gg]
 lia
theorem tR(j:Int):(0:Int)<1*2^j.toNat:=by rw[Int.one_mul];exact Int.pow_pos (by decide)
theorem A0(k:Nat)(h:k<=64):((1:Int)*2^((k:Int)).toNat).natAbs.log2<9000:=by
 rw[jf,Int.natAbs_natCast,Nat.log2_two_pow]
 lia
theorem Bq(c k:Nat):decide (V.int ((c:Int) / (1*2^((k:Int)).toNat) % 2)=V.int 1)=c.testBit k:=by
 have e:(c:Int) / (1*2^((k:Int)).toNat) % 2=((c / 2^k % 2:Nat):Int):=by rw[jf,Int.natCast_emod,Int.natCast_ediv];rfl
 rw[e,Nat.testBit_eq_decide_div_mod_eq,Bool.eq_iff_iff,Gj,Gj];constructor
 ·intro z;have:=V.int.inj z;omega
 ·intro z;rw[z];rfl
theorem Eh(c:Int): -(2^64)<c % (2^(64:Int).toNat)/\c % (2^(64:Int).toNat)<2^64:=by
 have e:((2:Int)^(64:Int).toNat)=18446744073709551616:=by decide
 rw[e]
 lia
theorem Bl(v:Int)(n:Nat):∃z:Nat,v % (1*2^((n:Int)).toNat)=(z:Int)/\z<2^n:=by
 have h0:(0:Int)<((2^n:Nat):Int):=by have:=Nat.two_pow_pos n;omega
 refine⟨(v % ((2^n:Nat):Int)).toNat,?_,?_⟩
 ·rw[jf,Int.toNat_of_nonneg (Gq _ (by omega))]
 ·have h1:=Gr v h0;have h2:=Gq v (show((2^n:Nat):Int)≠0 by omega);omega
noncomputable def isI:V->Bool
 | .int _=>true
 |_=>false
noncomputable def isB:V->Bool
 | .bl _=>true
 |_=>false
theorem Br(K:Frag){H:Hp}{x:V}{n:String}(ty:gI K H x (.type n)):kitOne K (.type n) (.type "int")=some (isI x||isB x):=by cases ty<;>kernel_rfl
theorem zu(K:Frag){H:Hp}{x:V}{n:String}(ty:gI K H x (.type n)):kitOne K (.type n) (.type "bool")=some (isB x):=by cases ty<;>kernel_rfl
theorem Cb(z:Int):∃w:Nat,1+z % 8=(w:Int)/\0<w/\w<=8:=⟨(1+z % 8).toNat,by lia,by lia,by lia⟩
def SX(l:Addr)(H H':Hp):Prop:=∀b o,b≠l->H b=some o->H' b=some o
theorem SX.refl(l:Addr)(H:Hp):SX l H H:=fun _ _ _ e=>e
theorem SX.trans{l:Addr}{H H1 H2:Hp}(a:SX l H H1)(b:SX l H1 H2):SX l H H2:=fun c o n e=>b c o n (a c o n e)
theorem SX.of{l:Addr}{H H':Hp}(a:ak H H'):SX l H H':=fun c o _ e=>a c o e
theorem SX.set{l:Addr}{H:Hp}{o:HO}:SX l H (upd H l o):=fun c u n e=>by rw[au n];exact e
theorem SX.same{l:Addr}{H H1 H2:Hp}(h:H l=none)(a:ak H H1)(b:SX l H1 H2):ak H H2:=fun c o e=>b c o (cZ e h) (a c o e)
theorem ak.set{l:Addr}{H H':Hp}{o:HO}(h:H l=none)(a:ak H H'):ak H (upd H' l o):=fun c u e=>by rw[au (cZ e h)];exact a c u e
end My
namespace LM
open PyProof.Rows
theorem jJ{a b:Nat}(h:∀j,a.testBit j=b.testBit j):a=b:=Nat.eq_of_testBit_eq h
theorem BN{a b:Nat}(h:∀j,a.testBit j=true<->b.testBit j=true):a=b:=Nat.eq_of_testBit_eq fun j=>by have:=h j;cases e1:a.testBit j<;>cases e2:b.testBit j<;>simp_all
theorem kq{a n:Nat}(h:∀j,a.testBit j=true->j<n):a<2^n:=Nat.lt_pow_two_of_testBit a fun j hj=>by
 cases e:a.testBit j with
 |false=>rfl
 |true=>have:=h j e;lia
theorem fS{c n k:Nat}(hc:c<2^n)(h:c.testBit k=true):k<n:=by
 rcases Nat.lt_or_ge k n with q|q
 ·exact q
 ·rw[Nat.testBit_lt_two_pow (FE hc (Gf (by decide) q))]at h;cases h
theorem BC(a b:Nat):(a&&& b)+(a^^^(a&&& b))=a:=by
 have h:=PyProof.Rows.nat_or_add_and (a&&& b) (a^^^(a&&& b));have e1:(a&&& b)|||(a^^^(a&&& b))=a:=jJ fun j=>by simp only[Nat.testBit_or,Nat.testBit_xor,G5];cases a.testBit j<;>cases b.testBit j<;>rfl
 have e2:(a&&& b)&&& (a^^^(a&&& b))=0:=jJ fun j=>by simp only[G5,Nat.testBit_xor,Nat.zero_testBit];cases a.testBit j<;>cases b.testBit j<;>rfl
 rw[e1,e2]at h
 lia
noncomputable def dif(a b:Nat):Nat:=a-(a&&& b)
theorem gX(a b j:Nat):(dif a b).testBit j=(a.testBit j&& !b.testBit j):=by
 have e:dif a b=a^^^(a&&& b):=by
  have:=BC a b;unfold dif
  lia
 rw[e];simp only[Nat.testBit_xor,G5];cases a.testBit j<;>cases b.testBit j<;>rfl
theorem pq{a b n:Nat}(h:a<2^n):dif a b<2^n:=by unfold dif;omega
theorem CH{a b:Nat}(h:a&&& b=0):a|||b=a+b:=by
 have:=PyProof.Rows.nat_or_add_and a b
 lia
theorem wm(k j:Nat):(2^k).testBit j=decide (k=j):=Nat.testBit_two_pow
theorem qD{j:Nat}:∀{js:List Nat}{a:Nat},(gx a js).testBit j=true<->a.testBit j=true\/j∈js
 | [],a=>by simp[gx]
 |x::js,a=>by
  have e:gx a (x::js)=gx (a||| 2^x) js:=rfl;rw[e,qD (js:=js)];simp only[Nat.testBit_or,Bool.or_eq_true,wm,Gj,FL];constructor
  ·rintro((h|h)|h)
   ·exact .inl h
   ·exact .inr (.inl h.symm)
   ·exact .inr (.inr h)
  ·rintro(h|h|h)
   ·exact .inl (.inl h)
   ·exact .inl (.inr h.symm)
   ·exact .inr h
inductive Rch(w h c k:Nat):Nat->Prop where
 |here:c.testBit k=true->Rch w h c k k
 |step {j i:Nat}:Rch w h c k j->i∈d6 w h j->c.testBit i=true->Rch w h c k i
theorem Rch.in{w h c k j:Nat}(r:Rch w h c k j):c.testBit j=true:=by
 cases r with
 |here e=>exact e
 |step _ _ e=>exact e
theorem Rch.trans{w h c k j i:Nat}(a:Rch w h c k j)(b:Rch w h c j i):Rch w h c k i:=by
 induction b with
 |here _=>exact a
 |step _ n e ih=>exact .step ih n e
theorem Rch.symm{w h c k j:Nat}(hw:0<w)(hc:c<2^(w*h))(r:Rch w h c k j):Rch w h c j k:=by
 induction r with
 |here e=>exact .here e
 |step r n e ih=>exact(Rch.step (.here e) (qI hw (fS hc r.in) n) r.in).trans ih
def cT(w h c k p:Nat):Prop:=∀j,p.testBit j=true<->Rch w h c k j
theorem cT.sub{w h c k p j:Nat}(a:cT w h c k p)(hj:p.testBit j=true):c.testBit j=true:=((a j).mp hj).in
theorem cT.at{w h c k p j:Nat}(hw:0<w)(hc:c<2^(w*h))(a:cT w h c k p)(hj:p.testBit j=true):cT w h c j p:=fun i=>by
 have r:=(a j).mp hj;constructor
 ·intro hi;exact(r.symm hw hc).trans ((a i).mp hi)
 ·intro ri;exact(a i).mpr (r.trans ri)
noncomputable def bW(c:Nat):Nat:=((List.range 64).find? c.testBit).getD 64
theorem jB{c L:Nat}(hL:L<64)(h1:c.testBit L=true)(h2:∀j,j<L->c.testBit j=false):bW c=L:=by
 unfold bW;have e:(List.range 64).find? c.testBit=some L:=by
  rw[List.find?_eq_some_iff_append];refine⟨h1,List.range L,(List.range (64-L-1)).map (fun x=>L+1+x),?_,fun j hj=>by simpa using h2 j (F9.mp hj)⟩;have:64=L+(1+(64-L-1)):=by omega
  conv=>lhs;rw[this]
  rw[List.range_add,List.range_add];simp[Nat.add_assoc]
 rw[e];rfl
theorem Bo:∀(c:Nat),c≠0->∃L,c-(c&&& (c-1))=2^L/\c.testBit L=true/\∀j,j<L->c.testBit j=false:=by
 intro c
 induction c using Nat.strongRecOn with
 |_ c ih=>
  intro h0;rcases Nat.mod_two_eq_zero_or_one c with e|e
  ·obtain⟨L,h1,h2,h3⟩:=ih (c / 2) (by lia) (by lia);refine⟨L+1,?_,?_,?_⟩
   ·have ha:c&&& (c-1)=2*((c / 2)&&& (c / 2-1)):=by
     refine jJ fun j=>?_;cases j with
     |zero=>rw[G5,Nat.testBit_zero,e,Nat.testBit_zero];simp
     |succ j=>
      rw[G5,Nat.testBit_succ,Nat.testBit_succ,Nat.testBit_succ,Nat.mul_div_cancel_left _ (by decide),G5];congr 2
      lia
    rw[ha,Nat.pow_succ,<-h1];omega
   ·rw[Nat.testBit_succ];exact h2
   ·intro j hj;cases j with
    |zero=>rw[Nat.testBit_zero,e];rfl
    |succ j=>rw[Nat.testBit_succ];exact h3 j (by lia)
  ·refine⟨0,?_,by rw[Nat.testBit_zero,e];rfl,fun j hj=>by lia⟩;have ha:c&&& (c-1)=c-1:=by
    refine jJ fun j=>?_;cases j with
    |zero=>rw[G5,Nat.testBit_zero,e,Nat.testBit_zero];simp
    |succ j=>rw[G5,Nat.testBit_succ,Nat.testBit_succ];have:(c-1) / 2=c / 2:=(by omega);rw[this,Bool.and_self]
   rw[ha];omega
theorem cE{c:Nat}(hc:c<2^64)(h0:c≠0):c.testBit (bW c)=true/\(∀j,j<bW c->c.testBit j=false)/\c-(c&&& (c-1))=2^bW c:=by obtain⟨L,h1,h2,h3⟩:=Bo c h0;have e:=jB (fS hc h2) h2 h3;rw[e];exact⟨h2,h3,h1⟩
theorem gB{c n:Nat}(hc:c<2^n)(hn:n<=64)(h0:c≠0):bW c<n:=fS hc (cE (FE hc (Gf (by decide) hn)) h0).1
inductive iy(w h:Nat):Nat->List Nat->Prop where
 |nil:iy w h 0 []
 |cons {r p:Nat} {ps:List Nat}:r≠0->cT w h r (bW r) p->iy w h (dif r p) ps->iy w h r (p::ps)
def gL(w h c r:Nat):Prop:=∀j i,r.testBit j=true->i∈d6 w h j->c.testBit i=true->r.testBit i=true
def Sub(r c:Nat):Prop:=∀j,r.testBit j=true->c.testBit j=true
theorem cT.of_closed{w h c r k p:Nat}(hcl:gL w h c r)(hs:Sub r c)(hk:r.testBit k=true)(a:cT w h r k p):cT w h c k p:=fun j=>by
 rw[a j];constructor
 ·intro x
  induction x with
  |here e=>exact .here (hs _ e)
  |step _ n e ih=>exact .step ih n (hs _ e)
 ·intro x
  induction x with
  |here _=>exact .here hk
  |step _ n e ih=>exact .step ih n (hcl _ _ ih.in n e)
theorem pG{w h c r p:Nat}(hw:0<w)(hc:c<2^(w*h))(hcl:gL w h c r)(hs:Sub r c){k:Nat}(a:cT w h c k p):gL w h c (dif r p):=fun j i hj hn hi=>by
 rw[gX,Bool.and_eq_true]at hj ⊢;refine⟨hcl j i hj.1 hn hi,?_⟩;cases e:p.testBit i with
 |false=>rfl
 |true=>have:p.testBit j=true:=(a j).mpr (.step ((a i).mp e) (qI hw (fS hc (hs j hj.1)) hn) (hs j hj.1));rw[this]at hj;cases hj.2
theorem v8{c r p:Nat}(hs:Sub r c):Sub (dif r p) c:=fun j hj=>by rw[gX,Bool.and_eq_true]at hj;exact hs j hj.1
theorem px{w h r p:Nat}(hr:r<2^64)(h0:r≠0)(a:cT w h r (bW r) p):p≠0/\bW p=bW r/\p.testBit (bW r)=true:=by
 obtain⟨h1,h2,_⟩:=cE hr h0;have hp:p.testBit (bW r)=true:=(a _).mpr (.here h1);refine⟨fun z=>by rw[z]at hp;simp at hp,jB (fS hr h1) hp fun j hj=>?_,hp⟩;cases e:p.testBit j with
 |false=>rfl
 |true=>rw[<-h2 j hj,a.sub e]
theorem iy.mem{w h c:Nat}(hw:0<w)(hc:c<2^(w*h))(h64:w*h<=64){r:Nat}{ps:List Nat}(a:iy w h r ps):gL w h c r->Sub r c->
  (∀p∈ps,∀k,p.testBit k=true->cT w h c k p)/\∀k,r.testBit k=true->∃p∈ps,p.testBit k=true:=by
 induction a with
 |nil=>exact fun _ _=>⟨fun p hp=>by simp at hp,fun k hk=>by simp at hk⟩
 | @cons r p ps z cp _ ih=>
  intro hcl hs;have hr:r<2^64:=FE (kq fun j hj=>fS hc (hs j hj)) (Gf (by decide) h64);have cc:=cp.of_closed hcl hs (cE hr z).1;obtain⟨i1,i2⟩:=ih (pG hw hc hcl hs cc) (v8 hs);refine⟨fun q hq k hk=>?_,fun k hk=>?_⟩
  ·rcases FL.mp hq with rfl|hq
   ·exact cc.at hw hc hk
   ·exact i1 q hq k hk
  ·cases e:p.testBit k with
   |true=>exact⟨p,Fw,e⟩
   |false=>obtain⟨q,hq,hk'⟩:=i2 k (by rw[gX,hk,e];rfl);exact⟨q,Ft _ hq,hk'⟩
theorem iy.len{w h r:Nat}{ps:List Nat}(a:iy w h r ps):∀{n:Nat},n<=64->r<2^n->ps.length<=n:=by
 suffices hh:∀(m:Nat),(∀j,j<m->r.testBit j=false)->∀{n:Nat},n<=64->r<2^n->ps.length+m<=max n m by
  intro n hn hr;have:=hh 0 (fun j hj=>by omega) hn hr
  lia
 induction a with
 |nil=>intro m _ n _ _;simp;lia
 | @cons r p ps z cp _ ih=>
  intro m hm n hn hr;have hr64:r<2^64:=FE hr (Gf (by decide) hn);obtain⟨l1,l2,_⟩:=cE hr64 z;have hl:m<=bW r:=by
   rcases Nat.lt_or_ge (bW r) m with q|q
   ·rw[hm _ q]at l1;cases l1
   ·exact q
  have hln:=gB hr hn z;have hp:=(px hr64 z cp).2.2
  have:=ih (bW r+1) (fun j hj=>by
   rw[gX];rcases Nat.lt_or_ge j (bW r)with q|q
   ·rw[l2 j q];rfl
   ·have:j=bW r:=by lia
    rw[this,hp,Bool.not_true,Bool.and_false]) hn (pq hr)
  rw[FV]
  lia
end LM
namespace My
open PySem L2 LM PyProof.Rows
theorem vP(a b:Nat):Builtin.bitAnd (a:Int) (Builtin.bitNot (b:Int))=((dif a b:Nat):Int):=by
 rw[PyProof.Rows.bitAnd_not,kC];have:=Nat.and_le_left (n:=a) (m:=b);unfold dif
 lia
theorem Al(L:Nat):Builtin.Int.intBits ((2^L:Nat):Int)=L+1:=by unfold Builtin.Int.intBits;have h0:2^L≠0:=Nat.ne_of_gt (Nat.two_pow_pos L);rw[FA (fun z=>h0 (by have:=eq_of_beq z;lia)),Int.natAbs_natCast,Nat.log2_two_pow]
theorem zq{c:Nat}(hc:c<2^64)(h0:c≠0):((Builtin.Int.intBits (Builtin.bitAnd (c:Int) (-(c:Int))):Nat):Int)-1=((bW c:Nat):Int):=by
 have e: -(c:Int)=Builtin.bitNot ((c-1:Nat):Int):=by
  unfold Builtin.bitNot
  lia
 have h:=(cE hc h0).2.2;rw[e,vP];unfold dif;rw[h,Al]
 lia
theorem BB{r p:Nat}(hs:Sub p r):p+dif r p=r:=by
 have e:r&&& p=p:=jJ fun j=>by
  rw[G5];cases z:p.testBit j with
  |false=>rw[Bool.and_false]
  |true=>rw[hs j z];rfl
 have h1:p<=r:=by rw[<-e];exact Nat.and_le_left
 unfold dif;rw[e]
 lia
theorem and_zero{a b:Nat}(h:∀j,a.testBit j=true->b.testBit j=false):a&&& b=0:=jJ fun j=>by
 rw[G5,Nat.zero_testBit];cases z:a.testBit j with
 |false=>rfl
 |true=>rw[h j z];rfl
noncomputable abbrev NV(L:List Nat):List V:=L.map fun k:Nat=>V.int (k:Int)
theorem gJ(a b:List Nat):NV (a++b)=NV a++NV b:=FN
theorem mR{K:Frag}{H:Hp}:∀(l:List Nat),d5 K H (l.map fun k:Nat=>PyData.int (k:Int)) (NV l)
 | []=>.nil
 |x::l=>.cons (.int x) (mR l)
theorem ux:∀(l:List Nat),PyData.canLayAll0 (l.map fun k:Nat=>PyData.int (k:Int))=true
 | []=>rfl
 |x::l=>by show(PyData.canLay0 (.int x)&&PyData.canLayAll0 (l.map _))=true;rw[ux l];rfl
end My
namespace L2
open PySem PySem.Spec PyProof.Rows
section
variable{X:Cx}{K:Frag}
theorem lN(h:X.K=K):IxR X (D6 K):=h▸bV
theorem c7(h:X.K=K):IxR X (D5 K):=h▸aO
end
theorem mh{n:Nat}{g:TG}{tt:TT}{te:TE}{σ0:St}{lo:Int}{Q:Hp->Prop}{D:Addr}{H:Hp}(Pv:Nat->List V->Hp->Prop)(h0:Pv 0 [] H)
  (hs:∀i acc H2,i<n->Pv i acc H2->g (.int (lo+i)) σ0 H2 fun σ2 H4=>tt σ2 H4 fun b H5=>if b=true then te σ2 H5 fun y H6=>H6 D=some (.lst acc)/\acc.length<sizeLine/\Pv (i+1) (acc++[y]) (upd H6 D (.lst (acc++[y])))else Pv (i+1) acc H5)
  (hd:∀acc H2,Pv n acc H2->Q H2):
  ∃W:Nat->Nat->List V->Hp->Prop,(∃m,W 0 m [] H)/\∀i m acc H2,W i m acc H2->
   ((Itr lo n).stop i H2/\Q H2)\/((Itr lo n).go i H2/\∃N:List V->Hp->Prop,(∀acc' H',N acc' H'->∃m',m'<m/\W (i+1) m' acc' H')/\∀x H3,(Itr lo n).yld i H2 x H3->g x σ0 H3 fun σ2 H4=>tt σ2 H4 fun b H5=>if b=true then te σ2 H5 fun y H6=>H6 D=some (.lst acc)/\acc.length<sizeLine/\N (acc++[y]) (upd H6 D (.lst (acc++[y])))else N acc H5):=
 vK (Q:=fun _ H=>Q H) Pv h0 hs hd
theorem qN{K:Frag}{a:Addr}{xs:List V}{g:TG}{tt:TT}{te:TE}{σ0:St}{Q:Hp->Prop}{D:Addr}{H:Hp}(Pv:Nat->List V->Hp->Prop)(h0:Pv 0 [] H)(hl:∀i acc H,i<=xs.length->Pv i acc H->SqL K H a xs)
  (hs:∀i x acc H2,xs[i]?=some x->Pv i acc H2->g x σ0 H2 fun σ2 H4=>tt σ2 H4 fun b H5=>if b=true then te σ2 H5 fun y H6=>H6 D=some (.lst acc)/\acc.length<sizeLine/\Pv (i+1) (acc++[y]) (upd H6 D (.lst (acc++[y])))else Pv (i+1) acc H5)
  (hd:∀acc H2,Pv xs.length acc H2->Q H2):
  ∃W:Nat->Nat->List V->Hp->Prop,(∃m,W 0 m [] H)/\∀i m acc H2,W i m acc H2->
   ((Itl K a).stop i H2/\Q H2)\/((Itl K a).go i H2/\∃N:List V->Hp->Prop,(∀acc' H',N acc' H'->∃m',m'<m/\W (i+1) m' acc' H')/\∀x H3,(Itl K a).yld i H2 x H3->g x σ0 H3 fun σ2 H4=>tt σ2 H4 fun b H5=>if b=true then te σ2 H5 fun y H6=>H6 D=some (.lst acc)/\acc.length<sizeLine/\N (acc++[y]) (upd H6 D (.lst (acc++[y])))else N acc H5):=
 ye (Q:=fun _ H=>Q H) Pv h0 hl hs hd
section
variable{κ:Type}[DecidableEq κ]
noncomputable def eK(kvs:List (κ×V))(k:κ):Option V:=(kvs.find? fun kv=>decide (kv.1=k)).map (·.2)
noncomputable def putK(kvs:List (κ×V))(k:κ)(v:V):List (κ×V):=
 if(kvs.any fun kv=>decide (kv.1=k))=true then kvs.map (fun kv=>if kv.1=k then(kv.1,v)else kv)else kvs++[(k,v)]
theorem cL{p:κ×V}{r:List (κ×V)}{k:κ}(e:p.1=k):eK (p::r) k=some p.2:=by simp[eK,F6,e]
theorem cM{p:κ×V}{r:List (κ×V)}{k:κ}(e:¬p.1=k):eK (p::r) k=eK r k:=by simp[eK,F6,e]
theorem iV(k:κ):∀kvs:List (κ×V),(kvs.any fun kv=>decide (kv.1=k))=(eK kvs k).isSome
 | []=>rfl
 |p::r=>by
  rw[GQ];by_cases e:p.1=k
  ·simp only[cL e,FQ e,Bool.true_or,Option.isSome_some]
  ·rw[cM e,FY e,Bool.false_or];exact iV k r
theorem tG(k j:κ)(y:V):∀kvs:List (κ×V),eK (kvs.map fun kv=>if kv.1=k then(kv.1,y)else kv) j=(eK kvs j).map fun x=>if j=k then y else x
 | []=>rfl
 |p::r=>by
  have ih:=tG k j y r;rw[FG];by_cases h:p.1=k
  ·rw[FH h];by_cases e:p.1=j
   ·rw[cL (p:=(p.1,y)) e,cL e,Option.map_some,FH (e.symm.trans h)]
   ·rw[cM (p:=(p.1,y)) e,cM e,ih]
  ·rw[FA h];by_cases e:p.1=j
   ·rw[cL (p:=p) e,cL e,Option.map_some,FA (fun z=>h (e.trans z))]
   ·rw[cM (p:=p) e,cM e,ih]
theorem qp(k j:κ)(y:V):∀kvs:List (κ×V),eK kvs k=none->eK (kvs++[(k,y)]) j=if j=k then some y else eK kvs j
 | [],_=>by
  by_cases e:k=j
  ·rw[FH e.symm];exact cL (p:=(k,y)) e
  ·rw[FA (fun z=>e z.symm)];exact cM (p:=(k,y)) e
 |p::r,hn=>by
  rw[List.cons_append];have hk:¬p.1=k:=fun z=>by rw[cL z]at hn;cases hn
  rw[cM hk]at hn;have ih:=qp k j y r hn;by_cases e:p.1=j
  ·rw[cL e,cL e,FA (fun z=>hk (e.trans z))]
  ·rw[cM e,cM e,ih]
theorem yE(kvs:List (κ×V))(k j:κ)(y:V):eK (putK kvs k y) j=if j=k then some y else eK kvs j:=by
 unfold putK;by_cases a:(kvs.any fun kv=>decide (kv.1=k))=true
 ·rw[FH a,tG];rw[iV]at a;by_cases e:j=k
  ·obtain⟨x,hx⟩:=Option.isSome_iff_exists.mp a;rw[FH e,e,hx,Option.map_some,FH rfl]
  ·rw[FA e];cases eK kvs j with
   |none=>rfl
   |some x=>rw[Option.map_some,FA e]
 ·rw[FA a];refine qp k j y kvs ?_;rw[iV]at a;cases q:eK kvs k with
  |none=>rfl
  |some x=>rw[q]at a;exact(a rfl).elim
theorem nI(kvs:List (κ×V))(k:κ)(v:V):(putK kvs k v).length<=kvs.length+1:=by
 unfold putK;split
 ·rw[Fm];lia
 ·rw[Fz,FV,G6];lia
theorem tP{kvs:List (κ×V)}{k:κ}(v:V)(h:eK kvs k=none):putK kvs k v=kvs++[(k,v)]:=by unfold putK;rw[iV,h];exact FA (by decide)
theorem hU.isSome_eq{o:Option V}{u:Option Value}(r:hU o u):o.isSome=u.isSome:=by
 cases o with
 |none=>cases u with
  |none=>rfl
  |some _=>exact(show False from r).elim
 |some _=>cases u with
  |none=>exact(show False from r).elim
  |some _=>rfl
theorem KV.val{kvs:List (κ×V)}{vs:List (κ×Value)}(r:KV kvs vs)(k:κ):hU (eK kvs k) (valueAt vs k):=by
 unfold KV at r
 induction r with
 |nil=>exact True.intro
 | @cons p q ps qs h t ih=>
  obtain⟨h1,h2⟩:=h;by_cases e:p.1=k
  ·have e':q.1=k:=h1.symm.trans e;have b:valueAt (q::qs) k=some q.2:=(by simp[valueAt,F6,e']);rw[cL e,b];exact h2
  ·have e':¬q.1=k:=fun z=>e (h1.trans z);have b:valueAt (q::qs) k=valueAt qs k:=(by simp[valueAt,F6,e']);rw[cM e,b];exact ih
theorem KV.any{kvs:List (κ×V)}{vs:List (κ×Value)}(r:KV kvs vs)(k:κ):(kvs.any fun kv=>decide (kv.1=k))=vs.any fun kv=>decide (kv.1=k):=by
 unfold KV at r
 induction r with
 |nil=>rfl
 |cons h t ih=>rw[GQ,GQ,ih,h.1]
theorem KV.repl{kvs:List (κ×V)}{vs:List (κ×Value)}(r:KV kvs vs)(k:κ){y:V}{u:Value}(ry:RelV y u):
  KV (kvs.map fun kv=>if kv.1=k then(kv.1,y)else kv) (vs.map fun kv=>if kv.1=k then(kv.1,u)else kv):=by
 unfold KV at r ⊢
 induction r with
 |nil=>exact .nil
 | @cons p q ps qs h t ih=>
  rw[FG,FG];refine .cons ?_ ih;obtain⟨h1,h2⟩:=h;by_cases e:p.1=k
  ·rw[FH e,FH (h1.symm.trans e)];exact⟨h1,ry⟩
  ·rw[FA e,FA (fun z=>e (h1.trans z))];exact⟨h1,h2⟩
theorem KV.put{kvs:List (κ×V)}{vs:List (κ×Value)}(r:KV kvs vs)(k:κ){y:V}{u:Value}(ry:RelV y u):KV (putK kvs k y) (stored vs k u):=by
 unfold putK stored;rw[r.any k];by_cases e:(vs.any fun kv=>decide (kv.1=k))=true
 ·rw[FH e,FH e];exact r.repl k ry
 ·rw[FA e,FA e];exact Paired.snoc r ⟨rfl,ry⟩
theorem KV.length{kvs:List (κ×V)}{vs:List (κ×Value)}(r:KV kvs vs):kvs.length=vs.length:=Fx r
end
theorem zA{P:Program}{w:World}{k:Key}{u:Value}(r:RelV (kV k) u):(bp P w).is k u=true:=by
 cases k with
 |inl i=>obtain⟨t,e⟩:=(show ∃t,u=Value.int i t from r);subst e;exact uq P w i t
 |inr x=>obtain⟨t,e⟩:=(show ∃t,u=Value.str x t from r);subst e;exact uo P w x t
theorem mQ{P:Program}{w:World}:∀{ks:List Key}{us:List Value},Vals (ks.map kV) us->ItemsAre (bp P w) ks us
 | [],_,r=>by rw[List.map_nil]at r;cases r;exact .nil
 |k::ks,_,r=>by
  rw[FG]at r;cases r with
  |cons h t=>exact .cons (zA h) (mQ t)
abbrev KT(H:Hp):List (List Key×V)->List (List Key×Addr×Value)->Prop:=Paired fun p q=>p.1=q.1/\H q.2.1=some (.tup (p.1.map kV))/\RelV p.2 q.2.2
theorem KT.val{H:Hp}{kvs:List (List Key×V)}{xs:List (List Key×Addr×Value)}(r:KT H kvs xs)(k:List Key):hU (eK kvs k) ((atKey xs k).map (·.2)):=by
 induction r with
 |nil=>exact True.intro
 | @cons p q ps qs h t ih=>
  obtain⟨h1,_,h2⟩:=h;by_cases e:p.1=k
  ·have e':q.1=k:=h1.symm.trans e;have b:atKey (q::qs) k=some q.2:=(by simp[atKey,F6,e']);rw[cL e,b];exact h2
  ·have e':¬q.1=k:=fun z=>e (h1.trans z);have b:atKey (q::qs) k=atKey qs k:=(by simp[atKey,F6,e']);rw[cM e,b];exact ih
theorem KT.repl{H:Hp}{kvs:List (List Key×V)}{xs:List (List Key×Addr×Value)}(r:KT H kvs xs)(k:List Key){y:V}{u:Value}(ry:RelV y u):
  KT H (kvs.map fun kv=>if kv.1=k then(kv.1,y)else kv) (xs.map (putAt k u)):=by
 induction r with
 |nil=>exact .nil
 | @cons p q ps qs h t ih=>
  rw[FG,FG];refine .cons ?_ ih;obtain⟨h1,h2,h3⟩:=h;unfold putAt;by_cases e:p.1=k
  ·rw[FH e,FH (h1.symm.trans e)];exact⟨h1,h2,ry⟩
  ·rw[FA e,FA (fun z=>e (h1.trans z))];exact⟨h1,h2,h3⟩
theorem KT.put{H:Hp}{kvs:List (List Key×V)}{xs:List (List Key×Addr×Value)}(r:KT H kvs xs)(k:List Key){b:Addr}{y:V}{u:Value}(hb:H b=some (.tup (k.map kV)))(ry:RelV y u):
  KT H (putK kvs k y) (storedH xs k b u):=by
 have e:(kvs.any fun kv=>decide (kv.1=k))=(atKey xs k).isSome:=by rw[iV,(r.val k).isSome_eq,Option.isSome_map]
 unfold putK storedH;rw[e];by_cases q:(atKey xs k).isSome=true
 ·rw[FH q,FH q];exact r.repl k ry
 ·rw[FA q,FA q];exact Paired.snoc r ⟨rfl,hb,ry⟩
theorem KT.keeps{H H':Hp}{kvs:List (List Key×V)}{xs:List (List Key×Addr×Value)}(r:KT H kvs xs)(ht:∀b ys,H b=some (.tup ys)->H' b=some (.tup ys)):KT H' kvs xs:=
 Paired.mapP r fun _ _ z=>⟨z.1,ht _ _ z.2.1,z.2.2⟩
section
variable{P:Program}{w:World}{H:Hp}{h:Heap}{a:Addr}
theorem B4{u:HO}(ok:HOk P w H h)(e:Rd H a u):bR P w H h a u:=e.ok ok
theorem zT{kvs:List (Key×V)}(ok:HOk P w H h)(e:Rd H a (.dK kvs)):kvs.length<=sizeLine/\(a==sysModules)=false/\∃vs,KV kvs vs/\h.DictOf (bp P w) a vs:=
 show bR P w H h a (.dK kvs)from B4 ok e
theorem Ew{kvs:List (Key×V)}(ok:HOk P w H h)(e:H a=some (.dK kvs)):kvs.length<=sizeLine/\(a==sysModules)=false/\∃vs,KV kvs vs/\h.DictOf (bp P w) a vs:=zT ok (.inl e)
theorem vx{ks:List Key}(ok:HOk P w H h)(e:H a=some (.tup (ks.map kV))):(tupleKind (bp P w)).is h ks a:=by obtain⟨_,its,r,o,h1,h2,n,h3⟩:=(show bR P w H h a (.tup (ks.map kV))from ok a _ e);exact⟨o,its.toArray,n,h1,h2,h3,by simpa using mQ r⟩
theorem zQ{kvs:List (List Key×V)}(ok:HOk P w H h)(e:Rd H a (.dT kvs)):kvs.length<=sizeLine/\(a==sysModules)=false/\
  ∃xs,KT H kvs xs/\h.DictOfH (tupleKind (bp P w)) a xs:=by
 obtain⟨z,y,xs,r,o,es,ep,h1,h2,h3,h4,h5⟩:=(show bR P w H h a (.dT kvs)from B4 ok e);refine⟨z,y,xs,r,o,es,ep,h1,h2,h3,h4,fun x hx=>?_,h5⟩;have all:∀{l:List (List Key×V)}{m:List (List Key×Addr×Value)},KT H l m->∀x∈m,(tupleKind (bp P w)).is h x.1 x.2.1:=by
  intro l m q
  induction q with
  |nil=>intro x hx;exact nomatch hx
  | @cons p q ps qs hq t ih=>
   intro x hx;rcases FL.mp hx with e|hx
   ·subst e;exact vx ok (by rw[<-hq.1];exact hq.2.1)
   ·exact ih x hx
 exact all r x hx
theorem Eu{kvs:List (List Key×V)}(ok:HOk P w H h)(e:H a=some (.dT kvs)):kvs.length<=sizeLine/\(a==sysModules)=false/\
 ∃xs,KT H kvs xs/\h.DictOfH (tupleKind (bp P w)) a xs:=zQ ok (.inl e)
end
def pP(H:Hp)(a:Addr)(y:V)(r:Option V):Prop:=
 (∃kvs k,Rd H a (.dK kvs)/\y=kV k/\r=eK kvs k)\/∃kvs k b,Rd H a (.dT kvs)/\y=.ref b/\H b=some (.tup (k.map kV))/\r=eK kvs k
def pN(H:Hp)(a:Addr)(y v:V)(H':Hp):Prop:=
 (∃kvs k,H a=some (.dK kvs)/\y=kV k/\kvs.length<sizeLine/\H'=upd H a (.dK (putK kvs k v)))\/
 ∃kvs k b,H a=some (.dT kvs)/\y=.ref b/\H b=some (.tup (k.map kV))/\kvs.length<sizeLine/\H'=upd H a (.dT (putK kvs k v))
theorem pP.k{H:Hp}{a:Addr}{kvs:List (Key×V)}{k:Key}(e:H a=some (.dK kvs)):pP H a (kV k) (eK kvs k):=.inl ⟨kvs,k,.inl e,rfl,rfl⟩
theorem pN.k{H:Hp}{a:Addr}{kvs:List (Key×V)}{k:Key}{v:V}(e:H a=some (.dK kvs))(hl:kvs.length<sizeLine):pN H a (kV k) v (upd H a (.dK (putK kvs k v))):=.inl ⟨kvs,k,e,rfl,hl,rfl⟩
section
variable{X:Cx}{pins:List (Addr×Obj)}{σ:St}{H:Hp}{s:Shared}{a:Addr}{y v:V}{u r:Value}{o:Option V}{A:Around}{E:Value->Shared->Prop}
theorem Inv.big(I:Inv X pins σ H s):sysModules<s.heap.objs.size:=by have h:mainGlobals<s.heap.objs.size:=(I.mod.glob.keeps I.bk).lt;exact Nat.lt_trans (by decide) h
theorem yd{Q:Value->Shared->Prop}(hu:A.units+1<cLine)(I:Inv X pins σ H s)(g:pP H a y (some v))(ry:RelV y u)(h:∀w' s',Inv X pins σ H s'->RelV v w'->Q w' s'):
  wpAny (model X.prog X.w) A (getItem (.ref a) u) Q E s:=by
 rcases g with⟨kvs,k,e,ey,l⟩|⟨kvs,k,b,e,ey,eb,l⟩
 ·subst ey;obtain⟨z,hd,vs,rel,dd⟩:=zT I.hok e;obtain⟨w',hw,rw'⟩:=hU.some_of (v:=v) (o:=valueAt vs k) (by rw[l];exact rel.val k);exact wpAny_getItem_of (zA ry) dd.mapOf hw (h w' _ (I.tok _) rw')
 ·subst ey;cases (show u=Value.ref b from ry);obtain⟨z,hd,xs,rel,dd⟩:=zQ I.hok e;obtain⟨w',hw,rw'⟩:=hU.some_of (v:=v) (o:=(atKey xs k).map (·.2)) (by rw[l];exact rel.val k);obtain⟨p,hp,hp2⟩:=Option.map_eq_some_iff.mp hw;refine wpAny_getItem_heap (tupleKind_room_in1 hu) (vx I.hok eb) dd hp ?_;rw[hp2];exact h w' _ (I.tok _) rw'
theorem sS{h':Heap}{t':Nat}{ob:HO}(I:Inv X pins σ H s)(mu:Mut (H a))(hs:Heap.SameBut a s.heap h')(he:∃q,h'.get? a=some q)(new:bR X.prog X.w (upd H a ob) h' a ob):
  Inv X pins σ (upd H a ob) {s with heap:=h',toks:=t'}:=
 I.write (x:=a) (e:=a) mu (.inl rfl) (fun b q hb z=>(hs.2 b hb).trans z) he new
theorem Dp{P:Program}{w:World}{H':Hp}{h':Heap}{kvs:List (Key×V)}{vs:List (Key×Value)}(z:kvs.length<=sizeLine)(hd:(a==sysModules)=false)(rel:KV kvs vs)(dd:h'.DictOf (bp P w) a vs):
 bR P w H' h' a (.dK kvs):=⟨z,hd,vs,rel,dd⟩
theorem yc{H':Hp}{Q:Unit->Shared->Prop}(hu:A.units+1<cLine)(I:Inv X pins σ H s)(g:pN H a y v H')(ry:RelV y u)(rv:RelV v r)(h:∀s',Inv X pins σ H' s'->Q () s'):
  wpAny (model X.prog X.w) A (setItem (.ref a) u r) Q E s:=by
 rcases g with⟨kvs,k,e,ey,l,eH⟩|⟨kvs,k,b,e,ey,eb,l,eH⟩
 ·subst ey eH;obtain⟨z,hd,vs,rel,dd⟩:=Ew I.hok e;have hz:vs.length<=sizeLine:=by rw[<-rel.length];exact z
  have hl:(putK kvs k v).length<=sizeLine:=by have:=nI kvs k v;lia
  refine wpAny_setItem_pairs (hsz:=hz) (zA ry) dd fun h' dd' hs=>h _ ?_;have he:∃q,h'.get? a=some q:=let ⟨q,_,_,hq,_⟩:=dd';⟨q,hq⟩;exact sS I (by rw[e];exact True.intro) hs he (Dp hl hd (rel.put k rv) dd')
 ·subst ey eH;cases (show u=Value.ref b from ry);obtain⟨z,hd,xs,rel,dd⟩:=Eu I.hok e;have hz:xs.length<=sizeLine:=by rw[<-Fx rel];exact z
  have hl:(putK kvs k v).length<=sizeLine:=by have:=nI kvs k v;lia
  refine wpAny_setItem_heap (hsz:=hz) (tupleKind_room_in1 hu) (vx I.hok eb) dd fun h' dd' hs=>h _ ?_;obtain⟨q,es,ep,hq,h2,h3,h4,_,h5⟩:=dd';refine sS I (by rw[e];exact True.intro) hs ⟨q,hq⟩ ⟨hl,hd,_,(rel.put k eb rv).keeps fun c ys ec=>?_,q,es,ep,hq,h2,h3,h4,h5⟩;rw[au (gU ec e (fun z=>nomatch z))];exact ec
end
def BS(i:Expr):Prop:=∀ov iv,subscripted i false ov iv=operate [ov,iv] (getItem ov iv)
theorem v9{prog:Program}{w:World}{A:Around}{E:Value->Shared->Prop}{s:Shared}{env:Env}{value slice:Expr}{pos:Pos}{T id:String}{Q:Value->Shared->Prop}
  (hl:typeLookup (.type T) "__getitem__"=pure (some (.builtin id))) (hs:BS slice)
  (h:wpAny (model prog w) A (eval value env) (fun o s₁=>wpAny (model prog w) A (eval slice env) (fun i s₂=>s₂.TypeIs o T/\wpAny (model prog w) A (getItem o i) Q E s₂) E s₁) E s):
  wpAny (model prog w) A (eval (.Subscript value slice pos) env) Q E s:=by
 refine Subscript_ (F8 h (fun o s₁ h₁=>F8 h₁ (fun i s₂ h₂=>?_) fun _ _ x=>x) fun _ _ x=>x);obtain⟨hT,h₂⟩:=h₂;unfold subscriptTail;refine Fl ?_;rw[getitemInPython_of_ne hT.not_modules];refine Fl (wpAny_specialOf hT hl ?_);have fin:wpAny (model prog w) A (subscripted slice false o i) (fun r s₃=>wpAny (model prog w) A (letTemporaryGo value o r>>= fun _=>pure r) Q E s₃) E s₂:=by rw[hs o i];exact wpAny_operating (F8 h₂ (fun r s₃ h₃=>Fl (wpAny_letTemporaryGo (Fo h₃))) fun _ _ x=>x)
 first
  |exact Fo (Fl fin)
  |exact Fl (Fo (Fl fin))
  |exact Fl fin
theorem uD{X:Cx}{pins:List (Addr×Obj)}{σ:St}{H:Hp}{s:Shared}{a:Addr}{y:V}{o:Option V}(I:Inv X pins σ H s)(g:pP H a y o):s.TypeIs (.ref a) "dict":=by
 rcases g with⟨kvs,k,e,_,_⟩|⟨kvs,k,b,e,_,_,_⟩
 ·obtain⟨_,_,vs,_,dd⟩:=zT I.hok e;exact dd.typeIs
 ·obtain⟨_,_,xs,_,dd⟩:=zQ I.hok e;exact dd.typeIs
def DV(td ty:TE):TE:=fun σ H Q=>td σ H fun x H1=>ty σ H1 fun y H2=>∃a v,x=.ref a/\pP H2 a y (some v)/\Q v H2
def D2(td ty tv:TE):TS:=fun D σ H=>tv σ H fun v H1=>td σ H1 fun x H2=>ty σ H2 fun y H3=>∃a H4,x=.ref a/\pN H3 a y v H4/\D.nx σ H4
section
variable{X:Cx}{o i e value:Expr}{pos pos' tpos:Pos}{td ty tv:TE}
theorem jz(hu:X.A.units+1<cLine)(ho:PE X o td)(hi:PE X i ty)(hs:BS i):PE X (.Subscript o i pos) (DV td ty):=by intro pins s σ H Q I h;refine v9 PySem.F.slot_dict_getitem.lookup hs (thn (ho pins s σ H _ I h) fun u s1 hPz=>L2.ep3 hPz fun x H1 I1 rx q1=>thn (hi pins s1 σ H1 _ I1 q1) fun iv s2 hPz=>?_);obtain⟨y,H2,I2,ry,a,v,ex,g,q2⟩:=hPz;subst ex;obtain rfl:u=Value.ref a:=rx;exact⟨uD I2 g,yd hu I2 g ry fun w' s3 I3 rw'=>⟨v,H2,I3,rw',q2⟩⟩
theorem iE(hu:X.A.units+1<cLine)(ho:PE X o td)(hi:PE X i ty)(hv:PE X value tv)(hs:swapsWith value (some (.Subscript o i pos')) pos.line X.env=pure false):
  PS X (.Assign [.Subscript o i pos'] value pos) (D2 td ty tv):=by
 intro pins s σ H D I h;refine wpAny_Assign_Subscript (thn (hv pins s σ H _ I h) fun r s1 hPz=>L2.ep3 hPz fun v H1 I1 rv q1=>thn (ho pins s1 σ H1 _ I1 q1) fun u s2 hPz=>L2.ep3 hPz fun x H2 I2 rx q2=>thn (hi pins s2 σ H2 _ I2 q2) fun iv s3 hPz=>?_) hs;obtain⟨y,H3,I3,ry,a,H4,ex,g,q3⟩:=hPz;subst ex;obtain rfl:u=Value.ref a:=rx;exact yc hu I3 g ry rv fun s4 I4=>⟨σ,H4,I4,q3⟩
end
theorem zU{P:Program}{w:World}{H:Hp}(h:Heap)(hb:sysModules<h.objs.size):bR P w H (h.push {cls:=.type "dict",data:=.dict #[]}) h.objs.size (.dK []):=
 ⟨F1 _,beq_eq_false_iff_ne.mpr (GR (F4 hb)),[],.nil,Heap.DictOf.new h⟩
def Cp:TE:=fun _ H Q=>∀p,H p=none->Q (.ref p) (upd H p (.dK []))
section
variable{X:Cx}{pos:Pos}
theorem jj:PE X (.Dict [] [] pos) Cp:=fun pins s σ H Q I h=>wpAny_Dict_empty ⟨.ref s.heap.objs.size,_,I.laid (a:=s.heap.objs.size) (o:=.dK []) (t':=s.toks) (fun _ _ q=>Fn _ q) (Fv _) (zU s.heap I.big),rfl,h _ (I.hok.fresh (Fv _))⟩
end
structure M2(X:Cx)(o:Expr)(m:Str)(apos:Pos)(e f:Expr)(cpos:Pos):Prop where
 base:attributeBase o m X.env (eval o X.env)=eval o X.env
 few:((backTo cpos (starEach [e,f] X.env)).all (fun x=> !x.1)&&(backToKw cpos (keywordEach [] X.env)).all (fun x=>x.1.isSome)
  &&decide (([e,f]:List Expr).length+([]:List Keyword).length+(if([]:List Keyword).isEmpty then 0 else 1)<30))=true
 line:(apos.endLine==cpos.line)=true
 trees:backTo cpos (starEach [e,f] X.env)=[(false,eval e X.env),(false,eval f X.env)]
theorem jn{α β:Type}{R:α->β->Prop}{b c:List β}(p:b.Perm c):∀{a:List α},Paired R a b->∃d,a.Perm d/\Paired R d c:=by
 induction p with
 |nil=>intro a h;cases h;exact⟨[],.refl _,.nil⟩
 |cons x _ ih=>
  intro a h;cases h with
  |cons r t=>obtain⟨d,h1,h2⟩:=ih t;exact⟨_,h1.cons _,.cons r h2⟩
 |swap x y l=>
  intro a h;cases h with
  |cons r t=>
   cases t with
   |cons r2 t2=>exact⟨_,List.Perm.swap _ _ _,.cons r2 (.cons r t2)⟩
 |trans _ _ ih1 ih2=>intro a h;obtain⟨d,h1,h2⟩:=ih1 h;obtain⟨e,h3,h4⟩:=ih2 h2;exact⟨e,h1.trans h3,h4⟩
theorem u7{xs:List V}{us:List Value}(r:Vals xs us):∀(kz:List Int),Paired (fun(p:Int×V) (q:Int×Value)=>p.1=q.1/\RelV p.2 q.2) (kz.zip xs) (kz.zip us):=by
 induction r with
 |nil=>intro kz;simp;exact .nil
 |cons h _ ih=>
  intro kz;cases kz with
  |nil=>exact .nil
  |cons k kz=>exact .cons ⟨rfl,h⟩ (ih kz)
theorem u9{ps:List (Int×V)}{qs:List (Int×Value)}(r:Paired (fun(p:Int×V) (q:Int×Value)=>p.1=q.1/\RelV p.2 q.2) ps qs):Vals (ps.map (·.2)) (qs.map (·.2))/\ps.map (·.1)=qs.map (·.1):=by
 induction r with
 |nil=>exact⟨.nil,rfl⟩
 |cons h _ ih=>exact⟨.cons h.2 ih.1,by rw[FG,FG,h.1,ih.2]⟩
def An(kz:List Int)(xs out:List V):Prop:=∃ps:List (Int×V),ps.Perm (kz.zip xs)/\out=ps.map (·.2)/\(ps.map (·.1)).Pairwise (·<=·)
theorem AO{kz:List Int}{xs:List V}{vs out:List Value}(r:Vals xs vs)(h:KskOut false kz vs out):∃ys,Vals ys out/\An kz xs ys:=by obtain⟨ps,hp,rfl,ho⟩:=h;obtain⟨d,h1,h2⟩:=jn hp.symm (u7 r kz);obtain⟨h3,h4⟩:=u9 h2;refine⟨_,h3,d,h1.symm,rfl,?_⟩;rw[h4];exact List.Pairwise.map _ (fun a b (z:if false=true then b.1<=a.1 else a.1<=b.1)=>z) ho
section
variable{prog:Program}{w:World}{A:Around}{E:Value->Shared->Prop}{s:Shared}{D kS:Addr}{vs:List Value}{kz:List Int}{ky:List Value}{c1 c2:Nat}{P:PySem.Fin->Shared->Prop}
theorem tL{st:SortSt}(gk:s.heap.get? kS=some (seqObj "list" ky.toArray c2))(gd:s.heap.get? D=some (seqObj "list" #[] c1))(ne:kS≠D)(hk:IntsAre ky kz)(e1:kz.length=vs.length)(l64:vs.length<64)
  (pm:(arrOf st).Perm (ky.toArray.zip vs.toArray)) (so:SortedTo (arrOf st) (arrOf st).size) (nf:failedOf st=none)
  (fin:∀out:List Value,KskOut false kz vs out->out.length<64->P (.done (.ret .none)) {s with heap:=(s.heap.update kS (Obj.mapSeq fun _=> #[])).update D (Obj.mapSeq fun _=>out.toArray)}):
  wpAny (model prog w) A (ksk_tail D false c1 (.ref kS) st) P E s:=by
 have lk:ky.length=vs.length:=by rw[hk.length];exact e1
 have ls:(arrOf st).size=vs.length:=by rw[pm.size_eq,Array.size_zip,Fu,Fu,lk,Nat.min_self]
 have gd2:(s.heap.update kS (Obj.mapSeq fun _=>(#[]:Array Value))).get? D=some (seqObj "list" #[] c1):=((Gu s.heap kS _).2 D ne.symm).trans gd;have ko:KskOut false kz vs ((arrOf st).map (·.2)).toList:=ksk_out (b:=false) (keys:=ky.toArray) (by simpa using hk) pm so;have f2:=fin _ ko (by rw[G1,Array.size_map,ls];exact l64);rw[Array.toArray_toList]at f2;unfold ksk_tail
 try dsimp only
 refine Fl (listUpdate_at gk rfl ?_ (by rw[Fu,Gm];lia) (F1 _));refine Fl (wpAny_letGo (Fl (seqEpoch_at gd2 rfl (Fl (listUpdate_at gd2 rfl ?_ (F1 _) ?_)))))
 ·rw[nf];simp only[bne_self_eq_false,Gk,if_false];exact Fo f2
 ·simp only[Gk,if_false,Array.size_map,ls,Gm]
  lia
theorem AM(gk:s.heap.get? kS=some (seqObj "list" ky.toArray c2))(gd:s.heap.get? D=some (seqObj "list" #[] c1))(ne:kS≠D)(hk:IntsAre ky kz)(e1:kz.length=vs.length)(l64:vs.length<64)
  (fin:∀out:List Value,KskOut false kz vs out->out.length<64->P (.done (.ret .none)) {s with heap:=(s.heap.update kS (Obj.mapSeq fun _=> #[])).update D (Obj.mapSeq fun _=>out.toArray)}):
  wpAny (model prog w) A (ksk_end D false vs.toArray c1 (.ref kS) ky.toArray) P E s:=by
 have lk:ky.length=vs.length:=by rw[hk.length];exact e1
 have hk':IntsAre ky.toArray.toList kz:=by simpa using hk
 have zs:(ky.toArray.zip vs.toArray).size=vs.length:=by rw[Array.size_zip,Fu,Fu,lk,Nat.min_self]
 unfold ksk_end
 try dsimp only
 rw[FA (by decide)];by_cases h2:vs.toArray.size<2
 ·rw[FH h2,FH h2];refine Fl (Fo ?_);rw[StateT.run_pure];refine Fl (Fo ?_);refine tL gk gd ne hk e1 l64 (Array.Perm.refl _) (fun i j hij hj=>?_) rfl fin;have hj':j<(ky.toArray.zip vs.toArray).size:=hj;rw[Fu]at h2;obtain rfl:i=j:=by lia
  exact Int.le_refl _
 ·rw[FA h2,FA h2];rw[Fu]at h2;rw[ksk_kind hk' (by rw[Fu,lk];lia)];refine Fl (Fo (Fl (F8 (wpS_sortRuns (a₀:=ky.toArray.zip vs.toArray) (Q:=fun _ z=>(arrOf z).Perm (ky.toArray.zip vs.toArray)/\failedOf z=none/\SortedTo (arrOf z) (ky.toArray.zip vs.toArray).size) (ksk_intKeys hk') ⟨Array.Perm.refl _,rfl,rfl,rfl⟩ (by rw[zs];omega) (by rw[zs];exact l64) fun z q1 q2 q3=>⟨q1,q2,q3⟩) ?_ fun _ _ z=>z)));rintro⟨⟨⟩,z⟩ s' ⟨rfl,q1,q2,q3⟩;exact tL gk gd ne hk e1 l64 q1 (by rw[q1.size_eq];exact q3) q2 fin
end
section
variable{X:Cx}{k:Nat}{f:Addr}{fd:FuncData}{ps:List Str}{sp:Sp}
theorem AU{pins:List (Addr×Obj)}{σ:St}{H:Hp}{s:Shared}{Q:VK}{us:List Value}{vs:List V}(F:gK X.prog X.w X.K X.mg X.base CX0 k f fd ps sp)(hr:cA (k+2) X.A)(hb:Binds X.K fd ps [])
  (I:Inv X pins σ H s) (r:Vals vs us) (h:sp vs H Q E0):wpAny (model X.prog X.w) X.A.in1.in1 (call (.ref f) us) (EP X pins σ Q) (fun _ _=>False) s:=by
 have hl:(us++[]).length=ps.length:=by rw[F3,<-r.length];exact F.len _ _ _ _ h
 have hb':=hb s us I.kIn hl;rw[F3]at hb';refine wpAny_call (codeAny_mono (F.run X.A.in1.in1 X.stack s H ⟨us,[]⟩ us vs Q E0 hr.in1.in1 I.env0.in1.in1 hb' r h) fun z s' hq=>?_);cases z with
 |error e=>exact False.elim hq
 |ok fl=>
  cases fl with
  |ret u=>exact I.after hq
  |next=>exact False.elim hq
  |brk=>exact False.elim hq
  |cont=>exact False.elim hq
theorem Inv.track{pins:List (Addr×Obj)}{σ:St}{H:Hp}{s:Shared}{h':Heap}{D:Addr}{ys:List V}{its:List Value}{n t':Nat}(I:Inv X pins σ H s)(fD:kF X pins H D)(k:∀b o,b≠D->s.heap.get? b=some o->h'.get? b=some o)
  (hv:Vals ys its) (hz:ys.length<=sizeLine) (g:h'.get? D=some {cls:=.type "list",data:=.seq its.toArray n}):Inv X pins σ (upd H D (.lst ys)) {s with heap:=h',toks:=t'}:=by
 obtain⟨f0,f1,f2,f3,f4,f5⟩:=fD;have nD:∀b u,H b=some u->b≠D:=fun b u e z=>by rw[z,f0]at e;cases e
 refine I.step (g':=s.gens) (d':=s.drawn) (ch:=[D]) (fun b hb=>?_) (fun b o _ _ hc e _=>k b o (fun z=>hc (by simp[z])) e) (fun b o _ _ hc e _=>⟨o.slots,k b o (fun z=>hc (by simp[z])) e⟩)
  (fun b o hc _ q=>by rw[au (fun z=>hc (by simp[z]))];exact q) (fun b o hc e=>⟨o,k b o (fun z=>hc (by simp[z])) e⟩) (fun b xs e=>by rw[au (nD b _ e)];exact e) (fun b o u e=>by rw[au (nD b _ e)];exact e)
  (fun b ps e=>⟨#[],by rw[au (nD b _ e),e];simp⟩) (fun m hm=>?_) (fun b u e=>?_) I.bare
 ·obtain rfl:b=D:=by simpa using hb
  exact⟨f3,f1,f4,f5⟩
 ·obtain⟨o,es,ep,ho,r⟩:=hm;exact⟨o,es,ep,k _ o (GR f1) ho,r⟩
 ·by_cases hbD:b=D
  ·subst hbD;rw[ae]at e;cases e;exact⟨hz,its,n,hv,g⟩
  ·rw[au hbD]at e;refine(I.hok b u e).stay (fun c v hc q=>k c v ?_ q) (fun c q=>?_) fun c xs q=>?_
   ·rcases hc with z|z
    ·rw[z];exact hbD
    ·exact nD c _ z
   ·rw[au (nD c _ q)];exact q
   ·rw[au (nD c _ q)];exact q
theorem xq{pins:List (Addr×Obj)}{σ:St}{H:Hp}{s:Shared}{P:PySem.Fin->Shared->Prop}{E:Value->Shared->Prop}{D:Addr}{n:Nat}{xs:List V}{vs:List Value}{kz:List Int}
  (F:gK X.prog X.w X.K X.mg X.base CX0 k f fd ps sp) (hr:cA (k+2) X.A) (hb:Binds X.K fd ps []) (I:Inv X pins σ H s) (fD:kF X pins H D) (gD:s.heap.get? D=some (seqObj "list" vs.toArray n)) (rv:Vals xs vs) (h64:xs.length<64) (hlen:kz.length=xs.length)
  (turn:∀(i:Nat)(v:V)(z:Int),xs[i]?=some v->kz[i]?=some z->∀H2,ak H H2->sp [v] H2 (fun y H3=>y=.int z/\H3=H2) E0)
  (done:∀ys H2 s2,Inv X pins σ H2 s2->ak H H2->H2 D=some (.lst ys)->An kz xs ys->P (.done (.ret .none)) s2):
  wpAny (model X.prog X.w) X.A.in1.in1 (ksk_tree D (.ref f) false) P E s:=by
 have lv:=rv.length;have up1:=Gu s.heap D (Obj.mapSeq fun _=>(#[]:Array Value));obtain⟨c1,gD1⟩:∃c1,(s.heap.update D (Obj.mapSeq fun _=>(#[]:Array Value))).get? D=some (seqObj "list" #[] c1):=⟨_,get?_update_seq gD fun _=> #[]⟩;obtain⟨f0,f1,f2,f3,f4,f5⟩:=id fD;have I1:Inv X pins σ H {s with heap:=s.heap.update D (Obj.mapSeq fun _=>(#[]:Array Value)),toks:=s.toks}:=I.turned (fun b o hb e=>(up1.2 b hb).trans e) f0 f1 f3 f4 f5;unfold ksk_tree;refine Fl (listItems_at gD rfl ?_);refine Fl (listUpdate_at gD rfl ?_ (by rw[Fu,Gm];lia) (F1 _));refine Fl (seqEpoch_at gD1 rfl ?_);refine Fl (wpAny_newTuple ?_ (by show vs.length<=_;rw[Gm];omega));have I2:=I1.kept (t':=s.toks) (h':=(s.heap.update D (Obj.mapSeq fun _=>(#[]:Array Value))).push (seqObj "tuple" vs.toArray 0)) (fun b u q=>Fn _ q);have gD2:=Fn (seqObj "tuple" vs.toArray 0) gD1;refine Fl (wpAny_newList ?_ (F1 _));have I3:=I2.lnew (its:=[]) (ys:=[]) (t':=s.toks) .nil (F1 _);have gD3:=Fn (seqObj "list" #[] 0) gD2;have fr2:=I2.fresh;have nKD:((s.heap.update D (Obj.mapSeq fun _=>(#[]:Array Value))).push (seqObj "tuple" vs.toArray 0)).objs.size≠D:=Nat.ne_of_gt (FI gD2);refine Gx ?_;generalize hkS:((s.heap.update D (Obj.mapSeq fun _=>(#[]:Array Value))).push (seqObj "tuple" vs.toArray 0)).objs.size=kS at I3 fr2 nKD ⊢
 have I4:=I3.pinned (fp:=[D]) (fun b hb=>by
  obtain rfl:b=D:=by simpa using hb
  exact⟨by rw[au (GR nKD)];exact f0,f1,f2,f3,f4,f5⟩) (fun b hb=>by
  obtain rfl:b=D:=by simpa using hb
  exact⟨_,gD3,fun v z=>by cases z⟩)
 have hpins:((D,seqObj "list" #[] c1):Addr×Obj)∈jh [D] (((s.heap.update D (Obj.mapSeq fun _=>(#[]:Array Value))).push (seqObj "tuple" vs.toArray 0)).push (seqObj "list" #[] 0)):=gA (by simp) gD3;have sm3:ak H (upd H kS (.lst [])):=ak.upd fr2;clear I1 I2 I3 gD1 gD2 up1;change Inv X (pins++jh [D] (((s.heap.update D (Obj.mapSeq fun _=>(#[]:Array Value))).push (seqObj "tuple" vs.toArray 0)).push (seqObj "list" #[] 0))) σ (upd H kS (.lst [])) {s with heap:=((s.heap.update D (Obj.mapSeq fun _=>(#[]:Array Value))).push (seqObj "tuple" vs.toArray 0)).push (seqObj "list" #[] 0)}at I4;change wpAny _ _ _ _ _ {s with heap:=((s.heap.update D (Obj.mapSeq fun _=>(#[]:Array Value))).push (seqObj "tuple" vs.toArray 0)).push (seqObj "list" #[] 0)};generalize hpl:jh [D] (((s.heap.update D (Obj.mapSeq fun _=>(#[]:Array Value))).push (seqObj "tuple" vs.toArray 0)).push (seqObj "list" #[] 0))=pl at I4 hpins;generalize ({s with heap:=((s.heap.update D (Obj.mapSeq fun _=>(#[]:Array Value))).push (seqObj "tuple" vs.toArray 0)).push (seqObj "list" #[] 0)}:Shared)=s4 at I4 ⊢;unfold ksk_rest;refine Fl (wpAny_rule ?_);rw[List.forIn_toArray];refine Fl (ksk_fold (fun i s'=>∃H',Inv X (pins++pl) σ H' s'/\H' kS=some (.lst ((kz.take i).map V.int))/\ak H H') vs 0 s4 ⟨_,I4,ae,sm3⟩ ?step ?fini)
 case step=>
  rintro j x s' hx ⟨H',I',hk',sm'⟩;simp only[G4]at hk' ⊢;have hj:j<vs.length:=(FD.mp hx).1;obtain⟨v,hv⟩:∃v,xs[j]?=some v:=⟨xs[j]'(by lia),by simp[show j<xs.length by omega]⟩;obtain⟨z,hzj⟩:∃z,kz[j]?=some z:=⟨kz[j]'(by lia),by simp[show j<kz.length by omega]⟩;obtain⟨u,hu,ru⟩:=rv.get hv;rw[hx]at hu;cases hu;refine Fl (wpAny_attempt (F8 (AU F hr hb I' (.cons ru .nil) (turn j v z hv hzj H' sm')) (fun y s'' he=>?_) fun _ _ hF=>hF.elim));obtain⟨y',H3,I'',ry,e1,e2⟩:=he;subst e1;subst e2;obtain⟨t,rfl⟩:=ry;obtain⟨hz',its,n',rk,lk,gk⟩:=I''.lstM hk';rw[Fm,FK]at lk;have I5:=I''.lset (f:=fun q=>q.push (.int z t)) (its':=its++[.int z t]) (ys:=(kz.take j).map V.int++[.int z]) (t':=s''.toks) hk' gk (by simp) (rk.append (show Vals [V.int z] [Value.int z t]from .cons ⟨t,rfl⟩ .nil)) (by rw[Fz,Fm,FK,GC,Gm];lia);refine Fl (listUpdate_at gk rfl ?_ (by rw[Fu,Gm];lia) (FW (Nat.le_of_eq (Array.size_push ..)) (by rw[Fu,Gm];lia)));refine Fo ⟨rfl,_,I5,?_,fun b o e=>?_⟩
  ·rw[ae,FJ,hzj];simp
  ·have nb:b≠kS:=fun zz=>by rw[zz,fr2]at e;cases e
   rw[au nb];exact sm' b o e
 case fini=>
  rintro s' ⟨H',I',hk',sm'⟩;rw[G4,List.take_of_length_le (by lia)]at hk';obtain⟨hz',its,n',rk,lk,gk⟩:=I'.lstM hk';obtain⟨pD,pn,_⟩:=I'.pin (D,seqObj "list" #[] c1) (FX _ (FX _ hpins));refine Fl (listItems_at gk rfl ?_);refine AM gk pD nKD (intsAre_of rk) (by lia) (by lia) fun out ko lo=>?_;obtain⟨ys,ry,sk⟩:=AO rv ko;have I5:=I'.unpinned.lset (f:=fun _=> #[]) (its':=[]) (ys:=[]) (t':=s'.toks) hk' gk rfl .nil (F1 _);have pD5:(s'.heap.update kS (Obj.mapSeq fun _=>(#[]:Array Value))).get? D=some (seqObj "list" #[] c1):=((Gu s'.heap kS _).2 D nKD.symm).trans pD;obtain⟨c6,g6⟩:∃c6,((s'.heap.update kS (Obj.mapSeq fun _=>(#[]:Array Value))).update D (Obj.mapSeq fun _=>out.toArray)).get? D=some (seqObj "list" out.toArray c6):=⟨_,get?_update_seq pD5 fun _=>out.toArray⟩;have I6:=I5.track (D:=D) (ys:=ys) (its:=out) (n:=c6) (t':=s'.toks) (h':=(s'.heap.update kS (Obj.mapSeq fun _=>(#[]:Array Value))).update D (Obj.mapSeq fun _=>out.toArray))
   ⟨by rw[au (GR nKD)];exact pn,f1,f2,f3,f4,f5⟩ (fun b o hb e=>((Gu _ D _).2 b hb).trans e) ry (by rw[ry.length,Gm];lia) g6
  refine done ys _ _ I6 (fun b o e=>?_) ae sk;have nb:b≠kS:=fun zz=>by rw[zz,fr2]at e;cases e
  have nb2:b≠D:=fun zz=>by rw[zz,f0]at e;cases e
  rw[au nb2,au nb];exact sm' b o e
theorem vM{pins:List (Addr×Obj)}{σ:St}{H:Hp}{s:Shared}{Q:VK}{a:Addr}{xs:List V}{kz:List Int}(F:gK X.prog X.w X.K X.mg X.base CX0 k f fd ps sp)(hr:cA (k+2) X.A)(hb:Binds X.K fd ps [])
  (I:Inv X pins σ H s) (hx:SqL X.K H a xs) (h64:xs.length<64) (hlen:kz.length=xs.length)
  (turn:∀(i:Nat)(v:V)(z:Int),xs[i]?=some v->kz[i]?=some z->∀H2,ak H H2->sp [v] H2 (fun y H3=>y=.int z/\H3=H2) E0)
  (done:∀l ys H2,H l=none->ak H H2->H2 l=some (.lst ys)->An kz xs ys->Q (.ref l) H2):
  wpAny (model X.prog X.w) X.A (call (.builtin "sorted") [.ref a] [("key",.ref f)]) (EP X pins σ Q) X.xe s:=by
 obtain⟨vs,rv,pl,hz⟩:=I.list hx;have lv:=rv.length;refine call_function_entry_kw kind_sorted plain_sorted entry_sorted (ksk_s1 _ _) ?_;unfold Builtin.«sorted»;refine Fl (m:=checkCount "sorted" 1 1 _) (Fo ?_);refine Fl (collect_list pl.isList ?_ (by lia));have sz1:((s.heap.push (seqObj "list" #[] 0)).update s.heap.objs.size (Obj.mapSeq fun z=>z++vs.toArray)).objs.size=s.heap.objs.size+1:=by rw[Heap.size_update,size_push']
 have k1:∀b u,s.heap.get? b=some u->((s.heap.push (seqObj "list" #[] 0)).update s.heap.objs.size (Obj.mapSeq fun z=>z++vs.toArray)).get? b=some u:=fun b u e=>by have lt:=FI e;exact((Gu (s.heap.push (seqObj "list" #[] 0)) s.heap.objs.size _).2 b (F4 lt)).trans (Fn _ e)
 have I1:=I.kept (t':=s.toks) k1;refine Fl (wpAny_newList ?_ (by lia));have k2:∀b u,((s.heap.push (seqObj "list" #[] 0)).update s.heap.objs.size (Obj.mapSeq fun z=>z++vs.toArray)).get? b=some u->(((s.heap.push (seqObj "list" #[] 0)).update s.heap.objs.size (Obj.mapSeq fun z=>z++vs.toArray)).push (seqObj "list" vs.toArray 0)).get? b=some u:=fun b u e=>Fn _ e;have I2:=I1.kept (t':=s.toks) k2;have gD:(((s.heap.push (seqObj "list" #[] 0)).update s.heap.objs.size (Obj.mapSeq fun z=>z++vs.toArray)).push (seqObj "list" vs.toArray 0)).get? ((s.heap.push (seqObj "list" #[] 0)).update s.heap.objs.size (Obj.mapSeq fun z=>z++vs.toArray)).objs.size=some (seqObj "list" vs.toArray 0):=FT _ rfl;have nD:H ((s.heap.push (seqObj "list" #[] 0)).update s.heap.objs.size (Obj.mapSeq fun z=>z++vs.toArray)).objs.size=none:=I1.fresh;have fD:=I1.fpOk (H':=H) (Fv _) nD;change wpAny _ _ _ _ _ {s with heap:=((s.heap.push (seqObj "list" #[] 0)).update s.heap.objs.size (Obj.mapSeq fun z=>z++vs.toArray)).push (seqObj "list" vs.toArray 0),toks:=s.toks};refine Fl (Gx (wpAny_call_entry_kw slot_list_sort ⟨_,gD,rfl⟩ entry_list_sort ?body (ksk_l1 _ _)))
 case body=>show wpAny (model X.prog X.w) X.A.in1.in1 (Builtin.«list.sort» ⟨[.ref _],[(Str.ofString "key",.ref f)]⟩) _ _ _;rw[ksk_t1];refine xq F hr hb I2 fD gD rv h64 hlen turn fun ys H2 s2 I3 sm hD sk=>⟨_,rfl,Fo ⟨_,rfl,?_⟩⟩;exact⟨.ref _,H2,I3,rfl,done _ ys H2 nD sm hD sk⟩
def DN(K:Frag)(sp:Sp)(t:TA):TE:=fun σ H Q=>t σ H fun vs H1=>∃a xs kz,vs=[.ref a]/\SqL K H1 a xs/\xs.length<64/\kz.length=xs.length/\
 (∀(i:Nat)(v:V)(z:Int),xs[i]?=some v->kz[i]?=some z->∀H2,ak H1 H2->sp [v] H2 (fun y H3=>y=.int z/\H3=H2) E0)/\
 ∀l ys H2,H1 l=none->ak H1 H2->H2 l=some (.lst ys)->An kz xs ys->Q (.ref l) H2
theorem A6{j:Nat}{g:Str}{e:Expr}{t:TA}{p p2 kp pos:Pos}(D:Df X.prog X.w X.K X.mg X.base j g ps sp)(hr:cA k X.A)(hs:Gl X "sorted")(hm:X.mg "sorted"=none)(ha:PA X [e] t)(hg:Gl X g:=by rfl)(hj:j+2<=k:=by decide)
  (hdb:(g==("__debug__":Str))=false:=by decide) (hst:starEach [e] X.env=[(false,eval e X.env)]:=by rfl):
  PE X (.Call (.Name "sorted" p) [e] [⟨some "key",.Name g p2,kp⟩] pos) (DN X.K sp t):=by
 obtain⟨f,fd,F,b,hmg,kp'⟩:=D.ex;intro pins s σ H Q I h;refine wpAny_Call_Name_kw (mM I hs hm (by decide+kernel:bootBuiltins "sorted"=some (.builtin "sorted")) ?_ (by decide) (by decide));refine PyProof.Rows.callWith_kw (thn (ha pos pins s σ H _ I h) fun us s1 hPz=>?_) (by rw[hst];rfl) (by rw[hst];rfl) (by rfl) (by rfl);obtain⟨vs,H1,I1,r1,a,xs,kz,ea,hx,h64,hlen,turn,done⟩:=hPz;subst ea;obtain⟨u,rfl,ru⟩:=vals1 r1;cases ru;refine PyProof.Rows.kws_cons (jC I1 hg hmg (PyProof.Rows.kws_nil ?_) hdb);exact vM F (hr.mono hj) b I1 hx h64 hlen turn done
end
theorem Ed{X:Cx}{tg l:Expr}{w1 w2:TI}(h1:PI X tg l w1)(h2:PI X tg l w2):PI X tg l (fun σ H R=>w1 σ H R\/w2 σ H R):=by
 intro pins s σ H R I h;rcases h with h|h
 ·exact h1 pins s σ H R I h
 ·exact h2 pins s σ H R I h
theorem y6{X:Cx}{tg l:Expr}{tl:TE}(hl:PE X l tl):PI X tg l (fun σ H R=>B9 X.K tl σ H R\/Eo X.K tl σ H R):=Ed (cX hl) (eO hl)
end L2
namespace LM
open PyProof.Rows
structure pO(w h c k:Nat)(G T:List Nat):Prop where
 nd:G.Nodup
 at_:k∈G
 rc:∀x∈G,Rch w h c k x
 sb:∀x∈T,x∈G
 cl:∀x∈G,¬x∈T->∀i∈d6 w h x,c.testBit i=true->i∈G
theorem pO.start{w h c k:Nat}(hk:c.testBit k=true):pO w h c k [k] [k] where
 nd:=by simp
 at_:=by simp
 rc:=fun x hx=>by rw[Fq]at hx;subst hx;exact .here hk
 sb:=fun x hx=>hx
 cl:=fun x hx hn=>absurd hx hn
theorem pO.len{w h c k:Nat}{G T:List Nat}(hc:c<2^64)(D:pO w h c k G T):G.length<=64:=by have:=length_le_of_subset (l1:=G) (l2:=List.range 64) D.nd fun x hx=>F9.mpr (fS hc (D.rc x hx).in);simpa using this
theorem mB{G:List Nat}{j:Nat}:(gx 0 G).testBit j=true<->j∈G:=by rw[qD];simp
theorem pO.done{w h c k:Nat}{G:List Nat}(D:pO w h c k G []):cT w h c k (gx 0 G):=fun j=>by
 rw[mB];constructor
 ·exact D.rc j
 ·intro r
  induction r with
  |here _=>exact D.at_
  |step _ hn hc ih=>exact D.cl _ ih (by simp) _ hn hc
structure ql(w h c k x:Nat)(G T:List Nat)(ns:List Nat):Prop where
 nd:G.Nodup
 at_:k∈G
 rc:∀y∈G,Rch w h c k y
 sb:∀y∈T,y∈G
 xG:x∈G
 cl:∀y∈G,¬y∈T->y≠x->∀i∈d6 w h y,c.testBit i=true->i∈G
 cx:∀i∈ns,c.testBit i=true->i∈G
theorem pO.mid{w h c k x:Nat}{G T:List Nat}(D:pO w h c k G (T++[x])):ql w h c k x G T [] where
 nd:=D.nd
 at_:=D.at_
 rc:=D.rc
 sb:=fun y hy=>D.sb y (FR _ hy)
 xG:=D.sb x (by simp)
 cl:=fun y hy hn hne=>D.cl y hy (fun z=>(FC.mp z).elim hn fun z=>hne (Fq.mp z))
 cx:=fun i hi=>by simp at hi
theorem ql.push{w h c k x i:Nat}{G T ns:List Nat}(D:ql w h c k x G T ns)(hi:c.testBit i=true)(hn:i∈d6 w h x)(hG:¬i∈G):ql w h c k x (G++[i]) (T++[i]) (ns++[i]) where
 nd:=by rw[GY];refine⟨D.nd,by simp,fun a ha b hb e=>?_⟩;rw[Fq]at hb;subst hb;subst e;exact hG ha
 at_:=FR _ D.at_
 rc:=fun y hy=>by
  rcases FC.mp hy with z|z
  ·exact D.rc y z
  ·rw[Fq]at z;subst z;exact .step (D.rc x D.xG) hn hi
 sb:=fun y hy=>by
  rcases FC.mp hy with z|z
  ·exact FR _ (D.sb y z)
  ·exact FX _ z
 xG:=FR _ D.xG
 cl:=fun y hy hT hne j hj hcj=>by
  rcases FC.mp hy with z|z
  ·exact FR _ (D.cl y z (fun q=>hT (FR _ q)) hne j hj hcj)
  ·exact absurd (FX _ z) hT
 cx:=fun j hj hcj=>by
  rcases FC.mp hj with z|z
  ·exact FR _ (D.cx j z hcj)
  ·exact FX _ z
theorem ql.skip{w h c k x i:Nat}{G T ns:List Nat}(D:ql w h c k x G T ns)(hi:c.testBit i=true->i∈G):ql w h c k x G T (ns++[i]) where
 nd:=D.nd
 at_:=D.at_
 rc:=D.rc
 sb:=D.sb
 xG:=D.xG
 cl:=D.cl
 cx:=fun j hj hcj=>by
  rcases FC.mp hj with z|z
  ·exact D.cx j z hcj
  ·rw[Fq]at z;subst z;exact hi hcj
theorem ql.done{w h c k x:Nat}{G T:List Nat}(D:ql w h c k x G T (d6 w h x)):pO w h c k G T where
 nd:=D.nd
 at_:=D.at_
 rc:=D.rc
 sb:=D.sb
 cl:=fun y hy hT i hi hc=>by
  by_cases e:y=x
  ·subst e;exact D.cx i hi hc
  ·exact D.cl y hy hT e i hi hc
theorem cT.to_closed{w h c r k p:Nat}(hcl:gL w h c r)(hs:Sub r c)(hk:r.testBit k=true)(a:cT w h c k p):cT w h r k p:=fun j=>by
 rw[a j];constructor
 ·intro x
  induction x with
  |here _=>exact .here hk
  |step _ n e ih=>exact .step ih n (hcl _ _ ih.in n e)
 ·intro x
  induction x with
  |here e=>exact .here (hs _ e)
  |step _ n e ih=>exact .step ih n (hs _ e)
end LM
namespace L2
open PySem PySem.Spec PyProof.Rows
theorem bR.there{P:Program}{w:World}{H:Hp}{h:Heap}{a:Addr}:∀{o:HO},bR P w H h a o->∃ob,h.get? a=some ob
 | .lst _,⟨_,_,_,_,e⟩=>⟨_,e⟩
 | .tup _,⟨_,_,_,o,e,_⟩=>⟨o,e⟩
 | .dK _,⟨_,_,_,_,o,_,_,e,_⟩=>⟨o,e⟩
 | .dT _,⟨_,_,_,_,o,_,_,e,_⟩=>⟨o,e⟩
 | .set _ _,x=>let ⟨o,e,_⟩:=(show h.SetOf (intKind P w) a _ _ from x).objOf;⟨o,e⟩
 | .ins _ _ _,⟨_,_,_,e,_⟩=>⟨_,e⟩
 | .own _,⟨o,e⟩=>⟨o,e⟩
 | .xd _,⟨_,n,_⟩=>by obtain⟨o,e,_⟩:=qK n;exact⟨o,e⟩
 | .rng _ _,⟨_,_,_,e⟩=>⟨_,e⟩
 | .frz _ _,⟨e,_⟩=>⟨_,e⟩
 | .tbl _,e=>⟨_,e⟩
 | .met _ _,e=>⟨_,e⟩
 | .ext _,⟨_,⟨o,e⟩,_⟩=>⟨o,e⟩
section
variable{X:Cx}{pins:List (Addr×Obj)}{σ:St}{H:Hp}{s:Shared}
theorem Inv.untr(I:Inv X pins σ H s){b:Addr}(e:s.heap.get? b=none):H b=none:=by
 cases q:H b with
 |none=>rfl
 |some o=>obtain⟨ob,z⟩:=(I.hok b o q).there;rw[e]at z;cases z
theorem Inv.flown{h':Heap}{ch:List Addr}{t':Nat}(I:Inv X pins σ H s)
  (hch:∀b∈ch,X.s₀.heap.get? b=none/\H b=none/\b≠X.env.locals/\(∀x c,X.env.cells.lookup x=some c->c≠b)/\∀p∈X.pn++pins,p.1≠b)
  (keep:∀b o,b∉frs X.stack->b∉ch->s.heap.get? b=some o->h'.get? b=some o) (slot:∀b o,b∈frs X.stack->s.heap.get? b=some o->∃sl,h'.get? b=some {o with slots:=sl}):
  Inv X pins σ H {s with heap:=h',toks:=t'}:=by
 have any:∀b o,b∉ch->s.heap.get? b=some o->∃sl,h'.get? b=some {o with slots:=sl}:=fun b o hc e=>by
  by_cases hb:b∈frs X.stack
  ·exact slot b o hb e
  ·exact⟨o.slots,keep b o hb hc e⟩
 have nch:∀b o,X.s₀.heap.get? b=some o->b∉ch:=fun b o e hb=>by rw[(hch b hb).1]at e;cases e
 have nst:∀b o,X.s₀.heap.get? b=some o->b∉X.fs->b∉frs X.stack:=fun b o e hb z=>by
  rcases FL.mp (I.stkSub b z)with q|q
  ·rw[q]at e;exact absurd (FE (FI e) I.ok.above) (G3 _)
  ·exact hb q
 have cellK:∀x c,X.env.cells.lookup x=some c->∀v,s.heap.IsCell c v->h'.IsCell c v:=fun x c e v ⟨o,ho,hd⟩=>by obtain⟨sl,q⟩:=any c o (fun z=>(hch c z).2.2.2.1 x c e rfl) ho;exact⟨_,q,hd⟩
 refine⟨I.ok,I.os,I.bare,⟨fun b o e n hb hx=>?_,fun b o e n hb hx=>?_,I.base.free,fun b o e hx=>?_,I.base.tups,I.base.frzs,I.base.tbls⟩,?_,fun x c e=>?_,I.free,I.freeC,fun p hp=>?_,fun b u e=>?_,I.len⟩
 ·exact keep b o (nst b o e hb) (nch b o e) (I.base.keep b o e n hb hx)
 ·obtain⟨sl,e1⟩:=I.base.slot b o e n hb hx;obtain⟨sl2,e2⟩:=any b _ (nch b o e) e1;exact⟨sl2,e2⟩
 ·obtain⟨o',e1⟩:=I.base.there b o e hx;obtain⟨sl,e2⟩:=any b o' (nch b o e) e1;exact⟨_,e2⟩
 ·obtain⟨m,⟨o,es,ep,ho,r⟩,hl⟩:=I.loc;obtain⟨sl,hL⟩:=any _ o (fun z=>(hch _ z).2.2.1 rfl) ho;refine⟨m,⟨_,es,ep,hL,r⟩,fun i x v e1 e2 e3=>?_⟩;obtain⟨u,r',l⟩:=hl i x v e1 e2 e3;refine⟨u,r',?_⟩;rcases l with l|⟨k,c,e,z⟩
  ·exact .inl l
  ·exact .inr ⟨k,c,e,cellK x c e _ z⟩
 ·obtain⟨v,z⟩:=I.cell x c e;exact⟨v,cellK x c e v z⟩
 ·obtain⟨e,n,ne,nf,d⟩:=I.pin p hp;refine⟨keep p.1 p.2 (fun z=>?_) (fun z=>(hch _ z).2.2.2.2 p hp rfl) e,n,ne,nf,d⟩;rcases FL.mp (I.stkSub _ z)with q|q
  ·exact ne q
  ·exact nf q
 ·refine(I.hok b u e).stay (fun c v hc q=>?_) (fun _ q=>q) fun _ _ q=>q;have hcu:∃y,H c=some y:=by
   rcases hc with z|z
   ·rw[z];exact⟨u,e⟩
   ·exact⟨_,z⟩
  obtain⟨y,hy⟩:=hcu;refine keep c v (fun z=>?_) (fun z=>?_) q
  ·rw[I.stkFree c z]at hy;cases hy
  ·rw[(hch c z).2.1]at hy;cases hy
def Trc(h:Heap)(x T:Addr)(cls a0:Value):Prop:=
 ∃oe vs oT ts,h.get? x=some oe/\(oe.cls=cls/\vs[0]?=some a0)/\oe.data=.fields vs/\vs[1]?=some (.ref T)/\T≠x/\h.get? T=some oT/\oT.data=.fields ts/\ts[3]?=some .none
theorem zO{x T:Addr}{cls a0:Value}(I:Inv X pins σ H s)(t:Trc s.heap x T cls a0):Heap.FlyingW (PySem.W.hideAll s.heap (frs X.stack++[x,T])) X.stack x cls a0 s.heap:=by obtain⟨oe,vs,oT,ts,a1,a2,a3,a4,a5,a6,a7,a8⟩:=t;refine⟨fun b o q=>PySem.W.of_hideAll _ q,PySem.W.hideAll_none _ (by simp),PySem.W.funFrames_hide I.stack fun env he a ha=>FR _ (List.mem_filterMap.mpr ⟨env,he,ha⟩),oe,vs,T,oT,ts,a1,a2,a3,a4,PySem.W.hideAll_none _ (by simp),a5,a6,a7,a8⟩
theorem Inv.landed{x T:Addr}{h':Heap}{t':Nat}(I:Inv X pins σ H s)(n1:X.s₀.heap.get? x=none)(n2:X.s₀.heap.get? T=none)(u1:H x=none)(u2:H T=none)
  (g1:∀p∈X.pn++pins,p.1≠x) (g2:∀p∈X.pn++pins,p.1≠T) (c1:∀y c,X.env.cells.lookup y=some c->c≠x) (c2:∀y c,X.env.cells.lookup y=some c->c≠T) (l1:x≠X.env.locals) (l2:T≠X.env.locals)
  (st:(PySem.W.hideAll s.heap (frs X.stack++[x,T])).StaysIn h') (us:s.heap.UpToSlots h'):Inv X pins σ H {s with heap:=h',toks:=t'}:=by
 refine I.flown (ch:=[x,T]) (fun b hb=>?_) (fun b o hb hc e=>st b o (PySem.W.hideAll_get _ e fun z=>?_)) (fun b o hb e=>?_)
 ·rcases FL.mp hb with q|q
  ·subst q;exact⟨n1,u1,l1,c1,g1⟩
  ·rw[Fq]at q;subst q;exact⟨n2,u2,l2,c2,g2⟩
 ·rcases FC.mp z with q|q
  ·exact hb q
  ·exact hc q
 ·obtain⟨_,o',ho,hnf⟩:=I.stack.mem hb;rw[e]at ho;cases ho;exact us b o e hnf
theorem Inv.apart{x:Addr}(I:Inv X pins σ H s)(hex:X.ex=[])(n:s.heap.get? x=none):
  X.s₀.heap.get? x=none/\(∀p∈X.pn++pins,p.1≠x)/\(∀y c,X.env.cells.lookup y=some c->c≠x)/\x≠X.env.locals:=by
 refine⟨?_,fun p hp z=>?_,fun y c e z=>?_,fun z=>?_⟩
 ·cases q:X.s₀.heap.get? x with
  |none=>rfl
  |some o=>obtain⟨o',e⟩:=I.base.there x o q (by rw[hex];simp);rw[n]at e;cases e
 ·have:=(I.pin p hp).1;rw[z,n]at this;cases this
 ·obtain⟨v,o,ho,_⟩:=I.cell y c e;rw[z,n]at ho;cases ho
 ·obtain⟨m,⟨o,es,ep,ho,_⟩,_⟩:=I.loc;rw[<-z,n]at ho;cases ho
theorem oh{B h':Heap}{x:Addr}{cls a0:Value}{as:List Addr}(I:Inv X pins σ H s)(hex:X.ex=[])(eB:B=PySem.W.hideAll s.heap (frs X.stack++as))(has:∀b∈as,X.s₀.heap.get? b=none/\H b=none)
  (J:∀b∈frs X.stack,∃o,h'.get? b=some o/\∀vs,o.data≠ .fields vs) (t:h'.TracedW B x cls a0):∃T,Trc h' x T cls a0/\X.s₀.heap.get? T=none/\H T=none:=by
 obtain⟨oe,vs,T,oT,ts,a1,a2,a3,a4,a5,a6,a7,a8,a9⟩:=t;have hid:∀o,s.heap.get? T=some o->T∈as:=fun o e=>by
  by_cases hm:T∈frs X.stack++as
  ·rcases FC.mp hm with q|q
   ·obtain⟨o',e',nf⟩:=J T q;rw[a7]at e';cases e';exact absurd a8 (nf ts)
   ·exact q
  ·rw[eB,PySem.W.hideAll_get _ e hm]at a5;cases a5
 refine⟨T,⟨oe,vs,oT,ts,a1,a2,a3,a4,a6,a7,a8,a9⟩,?_,?_⟩
 ·cases q:X.s₀.heap.get? T with
  |none=>rfl
  |some o=>obtain⟨o',e⟩:=I.base.there T o q (by rw[hex];simp);rw[(has T (hid o' e)).1]at q;cases q
 ·cases q:H T with
  |none=>rfl
  |some o=>obtain⟨o',e⟩:=(I.hok T o q).there;rw[(has T (hid o' e)).2]at q;cases q
end
abbrev vErr:List Value:=[.type "ValueError",.type "Exception",.type "BaseException",.type "object"]
section
variable{X:Cx}{pins:List (Addr×Obj)}{σ:St}{H:Hp}{s:Shared}
def tCE(sp:Sp)(E:XK)(t:TA):TE:=fun σ H Q=>t σ H fun vs H1=>sp vs H1 Q E
end
noncomputable abbrev Cx.marked(X:Cx)(x:Addr):Cx:={X with A:=X.A.mark (some (.ref x)),calm:=false,xe:=fun _ _=>False}
section
variable{X:Cx}{pins:List (Addr×Obj)}{σ:St}{H:Hp}{s:Shared}{x:Addr}
theorem Inv.marked(I:Inv X pins σ H s)(x:Addr):Inv (X.marked x) pins σ H s:=
 ⟨⟨I.ok.mod,I.ok.kind,I.ok.glob,I.ok.blt,I.ok.above,I.ok.inj,I.ok.has,I.ok.cab,(fun z=>by cases z),I.ok.frames,I.ok.stk,I.ok.exf,I.ok.bs,I.ok.bsz,I.ok.noex,I.ok.exfs,I.ok.funs,I.ok.frf⟩,I.os,I.bare,I.base,I.loc,I.cell,I.free,I.freeC,I.pin,I.hok,I.len⟩
theorem Inv.unmarked(ok:X.Ok)(I:Inv (X.marked x) pins σ H s):Inv X pins σ H s:=⟨ok,I.os,I.bare,I.base,I.loc,I.cell,I.free,I.freeC,I.pin,I.hok,I.len⟩
theorem SP.unmarked{D:Ends}{f:Flow}{s':Shared}(ok:X.Ok)(h:SP (X.marked x) pins D f s'):SP X pins D f s':=by
 cases f with
 |next=>obtain⟨σ',H',I,q⟩:=h;exact⟨σ',H',I.unmarked ok,q⟩
 |brk=>obtain⟨σ',H',I,q⟩:=h;exact⟨σ',H',I.unmarked ok,q⟩
 |cont=>obtain⟨σ',H',I,q⟩:=h;exact⟨σ',H',I.unmarked ok,q⟩
 |ret u=>obtain⟨v,σ',H',I,r,q⟩:=h;exact⟨v,σ',H',I.unmarked ok,r,q⟩
end
theorem pj{M:Model}{A:Around}{E:Value->Shared->Prop}{nm nm' q q':Str}{C C' N N':Addr}{bs bs' tl tl':List Value}{hd hd':Bool}{sn sn':List Str}{sub sub':List Value}{ab ab':Bool}{col col':Option Bool}{dd dd':Option Addr}
  {k0 k1 k2 k3 k5 j0 j1 j2 j3 j5:Option Value} {i i':String} {s:Shared} {x:Addr} {oe:Obj} {Q:Bool->Shared->Prop} {r:Bool}
  (hC:s.heap.get? C=some (excClassObj nm q C N bs tl hd sn sub ab col dd k0 k1 k2 k3 k5 i)) (hC':s.heap.get? C'=some (excClassObj nm' q' C' N' bs' tl' hd' sn' sub' ab' col' dd' j0 j1 j2 j3 j5 i')) (he:s.heap.get? x=some oe) (hcls:oe.cls=.ref C)
  (hb:tl'.contains (.type "BaseException")=true) (hr:(Value.ref C::tl).contains (.ref C')=r) (hq:Q r s):wpAny M A (excMatches (.ref x) (.ref C')) Q E s:=by
 obtain⟨h,g,d,t,os⟩:=s;have hcB:(Value.ref C'::tl').contains (.type "BaseException")=true:=by rw[List.contains_cons,hb,Bool.or_true]
 have f:=tc_notTuple;unfold excMatches
 repeat (first|(with_reducible refine GU he ?_;rw[hcls])|with_reducible refine GU hC' ?_|(with_reducible refine wpAny_isSubtype_exc hC' ?_;rw[hcB])|(with_reducible refine wpAny_isSubtype_exc hC ?_;rw[hr])|wp_step)
 cases r<;>(wp_walk;exact hq)
section
variable{X:Cx}{pins:List (Addr×Obj)}{σ:St}{H:Hp}{s:Shared}
theorem Inv.nameGone{h':Heap}{n:Str}{i:Nat}{v:Option Value}{m:Str->Option Value}{t':Nat}(I:Inv X pins σ H s)(hN:X.N.Nodup)(hi:X.N[i]?=some n)
  (hm:∀(i:Nat)(x:Str)(v:V),X.N[i]?=some x->σ[i]?=some (some v)->Vis X.env.scope x->∃u,RelV v u/\Look X.env s.heap m x u)
  (hn:h'.Ns X.env.locals fun x=>if x=n then v else m x) (sb:Heap.SameBut X.env.locals s.heap h'):Inv X pins (σ.set i none) H {s with heap:=h',toks:=t'}:=by
 have k:∀b o,b≠X.env.locals->s.heap.get? b=some o->h'.get? b=some o:=fun b o hb e=>(sb.2 b hb).trans e;have nl:∀b o,X.s₀.heap.get? b=some o->b≠X.env.locals:=fun b o e z=>by rw[z]at e;exact absurd (FE (FI e) I.ok.above) (G3 _)
 have cellK:∀x c,X.env.cells.lookup x=some c->∀v,s.heap.IsCell c v->h'.IsCell c v:=fun x c e v ⟨o,ho,hd⟩=>⟨o,k c o (I.cne x c e) ho,hd⟩;refine⟨I.ok,I.os,I.bare,⟨fun b o e n' hb hx=>?_,fun b o e n' hb hx=>?_,I.base.free,fun b o e hx=>?_,I.base.tups,I.base.frzs,I.base.tbls⟩,⟨_,hn,fun j x v' e1 e2 e3=>?_⟩,fun x c e=>?_,I.free,I.freeC,fun p hp=>?_,fun b u e=>?_,?_⟩
 ·exact k b o (nl b o e) (I.base.keep b o e n' hb hx)
 ·obtain⟨sl,q⟩:=I.base.slot b o e n' hb hx;exact⟨sl,k b _ (nl b o e) q⟩
 ·obtain⟨o',q⟩:=I.base.there b o e hx;exact⟨o',k b o' (nl b o e) q⟩
 ·have hji:j≠i:=fun z=>by
   subst z
   rw[List.getElem?_set_self (by
    rw[I.len]
    exact(FD.mp e1).1)]at e2
   cases e2
  rw[List.getElem?_set_ne (GR hji)]at e2;obtain⟨u,r,l⟩:=hm j x v' e1 e2 e3;have hxn:x≠n:=fun z=>hji (oU hN e1 (by rw[z];exact hi));refine⟨u,r,?_⟩;rcases l with⟨q1,q2⟩|⟨q,c,e,z⟩
  ·exact .inl ⟨q1,by show(if x=n then v else m x)=some u;rw[FA hxn];exact q2⟩
  ·exact .inr ⟨q,c,e,cellK x c e _ z⟩
 ·obtain⟨v',z⟩:=I.cell x c e;exact⟨v',cellK x c e v' z⟩
 ·obtain⟨e,a2,ne,a3⟩:=I.pin p hp;exact⟨k p.1 p.2 ne e,a2,ne,a3⟩
 ·refine(I.hok b u e).stay (fun c v' hc q=>k c v' (fun z=>?_) q) (fun _ q=>q) fun _ _ q=>q;subst z;rcases hc with z|z
  ·rw[<-z,I.free]at e;cases e
  ·rw[I.free]at z;cases z
 ·rw[List.length_set];exact I.len
noncomputable def Ends.gone(D:Ends)(i:Nat):Ends:={D with nx:=fun σ H=>D.nx (σ.set i none) H,bk:=fun σ H=>D.bk (σ.set i none) H,ct:=fun σ H=>D.ct (σ.set i none) H}
theorem Bu{D:Ends}{f:Flow}{i:Nat}{n:Str}{pos:Pos}{E:Value->Shared->Prop}(hN:X.N.Nodup)(hi:X.N[i]?=some n)(hl:X.env.kindOf n=some .local)(hk:X.env.scope.kind=.function)(h:SP X pins (D.gone i) f s):
  wpAny (model X.prog X.w) X.A (do bindName X.env n .none;unbindBehindTheSuite X.env n pos) (fun _ s'=>SP X pins D f s') E s:=by
 have go:∀{σ':St}{H':Hp}{R:Shared->Prop},Inv X pins σ' H' s->(∀s',Inv X pins (σ'.set i none) H' s'->R s')->wpAny (model X.prog X.w) X.A (do bindName X.env n .none;unbindBehindTheSuite X.env n pos) (fun _ s'=>R s') E s:=fun {σ' H' R} J q=>by obtain⟨m,hn,hm⟩:=id J.loc;refine wpAny_nameGoes_keeps hl hn (by rw[hk];rfl) fun h' v hn' sb=>q _ (J.nameGone hN hi hm hn' sb)
 cases f with
 |next=>obtain⟨σ',H',J,q⟩:=h;exact go J fun s' J'=>⟨_,H',J',q⟩
 |brk=>obtain⟨σ',H',J,q⟩:=h;exact go J fun s' J'=>⟨_,H',J',q⟩
 |cont=>obtain⟨σ',H',J,q⟩:=h;exact go J fun s' J'=>⟨_,H',J',q⟩
 |ret u=>obtain⟨v,σ',H',J,r,q⟩:=h;exact go J fun s' J'=>⟨v,_,H',J',r,q⟩
end
abbrev Bd(n:Nat)(i:Int):Prop:=Builtin.Int.intBits i<=n
theorem Bd.of{n:Nat}{i:Int}(h:i.natAbs<2^n):Bd n i:=intBits_le_iff.mpr h
theorem Bd.lt{n:Nat}{i:Int}(h:Bd n i):i.natAbs<2^n:=intBits_le_iff.mp h
theorem Bd.mono{m n:Nat}{i:Int}(h:Bd m i)(z:m<=n):Bd n i:=FW h z
theorem Bd.le{n:Nat}{i j:Int}(h:Bd n j)(z:i.natAbs<=j.natAbs):Bd n i:=intBits_le_of_natAbs z h
theorem Bd.log2{n:Nat}{i:Int}(h:Bd n i)(z:n<9000):i.natAbs.log2<9000:=by
 by_cases e:i.natAbs=0
 ·rw[e];decide
 ·rw[Nat.log2_lt e];exact FE h.lt (Gf (by decide) (Nat.le_of_lt z))
theorem zF(a b:Int):Int.gcd b (a.fmod b)=Int.gcd a b:=by
 have e:=Int.mul_fdiv_add_fmod a b;apply Nat.dvd_antisymm
 ·have h1:=Int.gcd_dvd_left b (a.fmod b);have h2:=Int.gcd_dvd_right b (a.fmod b);refine Int.dvd_gcd ?_ h1;have:=Int.dvd_add (Int.dvd_mul_of_dvd_left (c:=a.fdiv b) h1) h2;rwa[e]at this
 ·have h1:=Int.gcd_dvd_left a b;have h2:=Int.gcd_dvd_right a b;refine Int.dvd_gcd h2 ?_;have e2:a.fmod b=a-b*a.fdiv b:=by omega
  rw[e2];exact Int.dvd_sub h1 (Int.dvd_mul_of_dvd_left h2)
theorem zN(a:Int){b:Int}(h:b≠0):(a.fmod b).natAbs<b.natAbs:=by
 rcases Int.lt_or_gt_of_ne h with z|z
 ·have e:=Int.neg_fmod_neg a b;have h1:=Int.fmod_lt_of_pos (-a) (show 0< -b by lia);have h2:=Int.fmod_nonneg_of_pos (-a) (show 0< -b by omega);omega
 ·have h1:=Int.fmod_lt_of_pos a z;have h2:=Int.fmod_nonneg_of_pos a z;omega
noncomputable def frT(t b:Int):Int:=t / (Int.gcd t b:Int)
noncomputable def frB(t b:Int):Int:=b / (Int.gcd t b:Int)
section
variable{t b p q:Int}
theorem Dj(t b:Int):frT t b*(Int.gcd t b:Int)=t:=Int.ediv_mul_cancel (Int.gcd_dvd_left t b)
theorem By(t b:Int):frB t b*(Int.gcd t b:Int)=b:=Int.ediv_mul_cancel (Int.gcd_dvd_right t b)
theorem jt(h:0<b):(0:Int)<(Int.gcd t b:Int):=by have:=Int.gcd_pos_of_ne_zero_right t (b:=b) (by omega);omega
theorem wO(h:0<b):0<frB t b:=by
 have e:=By t b;have g:=jt (t:=t) h;rcases Int.lt_trichotomy (frB t b) 0 with z|z|z
 ·have:=Int.mul_neg_of_neg_of_pos z g
  lia
 ·rw[z]at e
  lia
 ·exact z
theorem Dk(h:0<b):Int.gcd (frT t b) (frB t b)=1:=by
 have g:=jt (t:=t) h;have e1:=congrArg Int.natAbs (Dj t b);have e2:=congrArg Int.natAbs (By t b);rw[Int.natAbs_mul,Int.natAbs_natCast]at e1 e2;have e3:Int.gcd t b=Nat.gcd (frT t b).natAbs (frB t b).natAbs*Int.gcd t b:=by
  conv=>lhs;unfold Int.gcd
  rw[<-e1,<-e2,Nat.gcd_mul_right]
 have:Nat.gcd (frT t b).natAbs (frB t b).natAbs=1:=by
  have g':0<Int.gcd t b:=by omega
  have:=Nat.eq_of_mul_eq_mul_right g' (show Nat.gcd (frT t b).natAbs (frB t b).natAbs*Int.gcd t b=1*Int.gcd t b by lia);exact this
 exact this
theorem zL(t b:Int):frT t b*b=frB t b*t:=by
 have e1:=Dj t b;have e2:=By t b;have a1:frT t b*b=frT t b*(frB t b*(Int.gcd t b:Int)):=by rw[e2]
 have a2:frB t b*t=frB t b*(frT t b*(Int.gcd t b:Int)):=by rw[e1]
 rw[a1,a2];exact Int.mul_left_comm _ _ _
theorem Bd.gcd{n:Nat}(h:Bd n b)(hb:b≠0):Bd n (Int.gcd t b:Int):=h.le (by
 rw[Int.natAbs_natCast]
 exact Nat.le_of_dvd (by lia) (Nat.gcd_dvd_right t.natAbs b.natAbs))
end
noncomputable def yg(mg:Str->Option Value)(x:Str):Value:=(mg x).getD .none
theorem wD{K:Frag}{h:Heap}{mg:Str->Option Value}{x:Str}(X:K.In h)(G:h.Ns mainGlobals mg)(a:nsIn K mainGlobals x=some none):mg x=none:=Ge X G a
theorem EA{i:Int}(h1: -10000000000000000000000000000000000000000000000000000000000000<=i)(h2:i<=10000000000000000000000000000000000000000000000000000000000000):Bd 250 i:=Bd.of (by
 have e:(2:Nat)^250=1809251394333065553493296640760748560207343510400633813116524750123642650624:=by decide
 rw[e]
 omega)
theorem Em{K:Frag}{H:Hp}(x y:Int):d5 K H [.int x,.int y] [.int x,.int y]:=.cons (.int _) (.cons (.int _) .nil)
section
variable{X:Cx}
noncomputable def E3(K:Frag)(neg:Bool):R2:=fun x y H Q=>∃d ds,IsD K H d x/\(IsD K H (.list ds) y\/IsD K H (.tuple ds) y)/\d.canLay0=true/\PyData.canLayAll0 ds=true/\d.depth<=50/\Q (.bl (if neg then !(ds.any fun e=>PyData.eqv e d)else ds.any fun e=>PyData.eqv e d)) H
theorem eV(hu:X.A.units+64<cLine):OpR X (compareOp .NotIn) (E3 X.K true):=by
 intro pins s σ H x y v u Q I rx ry h;obtain⟨d,ds,h1,h2,c1,c2,hd,q⟩:=h;obtain⟨as,ra⟩:=IsD.reads I h1 rx;have hm:=Nat.min_le_right (PyData.depthAll ds) d.depth;rcases h2 with h2|h2
 ·obtain⟨bs,rb⟩:=IsD.reads I h2 ry;exact SeqAt.notIn_list_reads rb ra c2 c1 (by lia) (show EP X pins σ Q _ s from⟨.bl _,H,I,rfl,q⟩)
 ·obtain⟨bs,rb⟩:=IsD.reads I h2 ry;exact SeqAt.notIn_tuple_reads rb ra c2 c1 (by omega) (show EP X pins σ Q _ s from⟨.bl _,H,I,rfl,q⟩)
def AX(K:Frag):V->List V->Hp->VK->Prop:=fun x vs H Q=>∃l xs v d ds j,x=.ref l/\vs=[v]/\H l=some (.lst xs)/\d5 K H ds xs/\IsD K H d v/\d.canLay0=true/\PyData.canLayAll0 ds=true/\d.depth<=50/\
 (∃e,ds[j]?=some e/\PyData.eqv e d=true)/\(∀m e,m<j->ds[m]?=some e->PyData.eqv e d=false)/\Q (.int (j:Nat)) H
theorem um(hu:X.A.units+64<cLine):MtM X "list.index" (AX X.K):=by
 intro pins s σ H x vs v us Q I rx rv h;obtain⟨l,xs,v',d,ds,j,rfl,rfl,hH,hds,hd,c1,c2,hdp,⟨e0,he0,ht⟩,hno,q⟩:=h;cases rx;obtain⟨u,rfl,ru⟩:=rv.one;obtain⟨z,its,n,r,hl,e⟩:=I.lstM hH;obtain⟨as,ra⟩:=d5.reads I hds r;obtain⟨bs,rb⟩:=IsD.reads I hd ru;have hm:=Nat.min_le_right (PyData.depthAll ds) d.depth;have mp:=SeqAt.readsAll_map ds its as c2 ra;have jl:j<ds.length:=(FD.mp he0).1;have jl':j<its.length:=by rw[<-mp,Fm]at jl;exact jl
 have at':∀m(hm:m<its.length),ds[m]?=some (SeqAt.readOf s.heap its[m]):=fun m hm=>by rw[<-mp,FO,Fy hm];rfl
 have sz:(2:Int)^63-1=9223372036854775807:=by decide
 have hz:sizeLine<=9223372036854775807:=by decide
 refine call_meets F.slot_list_index ⟨_,e,rfl⟩ F.entry_list_index (F.args_list_index_2 _ _)
  (SeqAt.list_indexAt l its.toArray n none #[] u (fun y=>PyData.eqv (SeqAt.readOf s.heap y) d) j (by simpa using jl') (by rw[sz];lia) ?_ ?_) ⟨e,?_,?_⟩
 ·have:=at' j jl';rw[he0]at this;show PyData.eqv (SeqAt.readOf s.heap its.toArray[j]) d=true;rw[show its.toArray[j]=its[j]from by simp,<-F0 this];exact ht
 ·intro m hm' hmj;have hm2:m<its.length:=by simpa using hm'
  show PyData.eqv (SeqAt.readOf s.heap its.toArray[m]) d=false;rw[show its.toArray[m]=its[m]from by simp];exact hno m _ hmj (at' m hm2)
 ·exact SeqAt.items_eqAt (vs:=its.toArray) (by simpa using ra) rb c2 c1 (by lia)
 ·exact⟨.int (j:Nat),H,I.tok _,⟨_,rfl⟩,q⟩
end
theorem KV.len{kvs:List (Key×V)}{vs:List (Key×Value)}(r:KV kvs vs):kvs.length=vs.length:=Fx r
theorem KV.at:∀{kvs:List (Key×V)}{vs:List (Key×Value)},KV kvs vs->∀{i:Nat}{k:Key}{u:Value},vs[i]?=some (k,u)->∃v,kvs[i]?=some (k,v)
 |_,_,.nil,_,_,_,e=>by simp at e
 |_::_,_::_,.cons r t,0,k,u,e=>by simp at e;subst e;obtain⟨rk,rv⟩:=r;exact⟨_,by simp;exact Prod.ext rk rfl⟩
 |_::_,_::_,.cons r t,i+1,k,u,e=>by obtain⟨v,q⟩:=KV.at t (i:=i) (k:=k) (u:=u) (by simpa using e);exact⟨v,by simpa using q⟩
theorem AW{P:Program}{w:World}{k:Key}{v:Value}(h:(bp P w).is k v=true):RelV (kV k) v:=by
 rcases bP (show pf k v=true from h)with⟨i,t,rfl,rfl⟩|⟨x,t,rfl,rfl⟩
 ·exact⟨t,rfl⟩
 ·exact⟨t,rfl⟩
theorem og{vs:List Value}{ns:List Int}(hI:IntsAre vs ns):Vals (ns.map V.int) vs:=by
 induction hI with
 |nil=>exact .nil
 |cons n t h ih=>exact .cons ⟨t,rfl⟩ (ih)
section
variable{X:Cx}
theorem uy{P:Program}{w:World}{vs:List (Key×Value)}:∀{kvs:List (Key×V)}{acc:List Value},KV kvs vs->acc.length=kvs.length->(∀(j:Nat)(v:Value),acc[j]?=some v->∃(k:Key)(x:Value),vs[j]?=some (k,x)/\(bp P w).is k v=true)->Vals (kvs.map fun p=>kV p.1) acc:=by
 intro kvs acc r hl hs;have:∀(n:Nat)(kvs:List (Key×V))(acc:List Value),kvs.length=n->acc.length=n->(∀(j:Nat)(v:Value),acc[j]?=some v->∃(k:Key)(x:V),kvs[j]?=some (k,x)/\(bp P w).is k v=true)->Vals (kvs.map fun p=>kV p.1) acc:=by
  intro n
  induction n with
  |zero=>intro kvs acc h1 h2 _;rw[List.length_eq_zero_iff]at h1 h2;subst h1 h2;exact .nil
  |succ n ih=>
   intro kvs acc h1 h2 hs
   match kvs,acc,h1,h2,hs with
   |(k0,x0)::kvs,v0::acc,h1,h2,hs=>obtain⟨k,x,e,z⟩:=hs 0 v0 rfl;simp at e;obtain⟨rfl,rfl⟩:=e;exact .cons (AW z) (ih kvs acc (by simpa using h1) (by simpa using h2) fun j v e=>by simpa using hs (j+1) v (by simpa using e))
 refine this kvs.length kvs acc rfl hl fun j v e=>?_;obtain⟨k,x,h1,h2⟩:=hs j v e;obtain⟨y,hy⟩:=KV.at r h1;exact⟨k,y,hy,h2⟩
theorem kB(hc:X.calm=true):fh X (.builtin "sorted") (fun xs H Q=>∃(p:Addr)(kvs:List (Key×V))(ns:List Int),xs=[.ref p]/\Rd H p (.dK kvs)/\(kvs.map fun q=>kV q.1)=ns.map V.int/\ns.length<64/\∀(l:Addr)(ns':List Int),H l=none->ns'.Perm ns->ns'.Pairwise (·<=·)->Q (.ref l) (upd H l (.lst (ns'.map V.int)))):=by
 intro pins s σ H xs us Q I r h;obtain⟨p,kvs,ns,rfl,hx,hk,h64,q⟩:=h;obtain⟨u,rfl,ru⟩:=vals1 r;cases ru;have ho:bR X.prog X.w H s.heap p (.dK kvs):=by
  rcases hx with hx|⟨o,hx⟩
  ·exact I.hok p _ hx
  ·exact(I.hok p _ hx).2
 obtain⟨hz,hs,vs,rv,hD⟩:=ho;obtain⟨ep,hat⟩:=hD.dictAt;have hl:=rv.len;have hkl:=congrArg List.length hk;rw[Fm,Fm]at hkl;refine Calls.call_function_entry kind_sorted plain_sorted entry_sorted (args_sorted1 _) ?_;unfold Builtin.«sorted»;refine Fl (m:=checkCount "sorted" 1 1 _) (Fo ?_);refine Fl (PySem.W.kdu_collect (PySem.W.kdl_dict (knd:=bp X.prog X.w) (kvs:=vs) (ep:=ep) hs) (I.ok.hd hc) hat (by lia) fun h' tk acc hkeep hacc=>?_);have al:acc.toList.length=kvs.length:=by rw[G1,hacc.1,hl]
 have va:=uy rv al fun j v e=>hacc.2 j v (by rw[<-GW];exact e);rw[hk]at va;have I1:=I.kept (t':=tk) hkeep;refine Fl (wpAny_newList ?_ (by lia));have gD:(h'.push (seqObj "list" acc.toList.toArray 0)).get? h'.objs.size=some (seqObj "list" acc.toList.toArray 0):=FT _ rfl;have fr:H h'.objs.size=none:=I1.hok.fresh (Fv _);refine Fl (Gx (GG slot_list_sort ⟨_,gD,rfl⟩ entry_list_sort (list_sort_tree gD (intsAre_of va) (by lia) fun out ns' hi pm so=>⟨_,rfl,?_⟩) (args_list_sort _)));obtain⟨e,he⟩:=sortedHeap_at (out:=out) gD;have pl':=pm.length_eq;refine Fo ⟨_,rfl,.ref _,_,I1.track (t':=tk) (n:=e) (its:=out.toList) (I1.fpOk (Fv _) fr) (fun b o hb z=>?_) (og hi) (by rw[Fm,Gm];lia) he,rfl,q _ ns' fr pm so⟩;have lt:=FI z;rw[sortedHeap_old hb (by rw[size_push'];exact Nat.lt_succ_of_lt lt)];exact Fn _ z
theorem qO(hc:X.calm=true):fh X (.builtin "sum") (fun xs H Q=>∃(p:Addr)(ns:List Int),xs=[.ref p]/\SqL X.K H p (ns.map V.int)/\Q (.int ns.sum) H):=by
 intro pins s σ H xs us Q I r h;obtain⟨p,ns,rfl,hx,q⟩:=h;obtain⟨u,rfl,ru⟩:=vals1 r;cases ru;obtain⟨vs,rv,pl,hz⟩:=I.list hx;have hi:=intsAre_of rv;obtain⟨ys,e⟩:=hi.allInts.items;have hns:ns=ys.toList.map (·.1):=by rw[<-hi.numsOf,<-nums_intItems,<-e]
 have hl:=pl.isList;rw[e]at hl;refine sum_intListG (I.ok.hd hc) hl fun h' tk t' hk=>?_;refine⟨.int ns.sum,H,I.kept hk,⟨t',?_⟩,q⟩;rw[preSum_eq,List.take_of_length_le (by simp),hns]
noncomputable def rq(x:Str)(k:Nat):Str:=⟨(List.replicate k x.cps).foldl (·++·) #[]⟩
theorem tO(x:Str)(k:Nat):(rq x k).length=x.length*k:=by
 have:∀(k:Nat)(a:Array Nat),((List.replicate k x.cps).foldl (·++·) a).size=a.size+x.cps.size*k:=by
  intro k
  induction k with
  |zero=>intro a;simp
  |succ k ih=>
   intro a;rw[List.replicate_succ,List.foldl_cons,ih,Array.size_append,Nat.mul_succ]
   lia
 have h:=this k #[];show((List.replicate k x.cps).foldl (·++·) #[]).size=x.cps.size*k;rw[h];simp
theorem Ba:OpR X (binaryOp .Mult) (fun x y H Q=>∃z n,x=.str z/\y=.int n/\0<=n/\n<=1000/\z.length<=1000/\Q (.str (rq z n.toNat)) H):=by
 intro pins s σ H x y v u Q I rx ry h;obtain⟨z,n,rfl,rfl,h0,h1,h2,q⟩:=h;obtain⟨t,rfl⟩:=rx;obtain⟨t',rfl⟩:=ry;have hm:z.length*n.toNat<=1000*1000:=Nat.mul_le_mul h2 (by lia);have hs:1000*1000<=sizeLine:=by decide
 refine P.mul_str ?_ (fun h3 h4 h5=>?_) (fun h3 h4=>?_) ?_
 ·rw[FY (by lia),FY (by lia)];rfl
 ·have e:=Int.ediv_mul_le ((2:Int)^63-1) (b:=n) (by omega);have:(2:Int)^63-1<((2^63-1) / n+1)*n:=by
   have:=Int.lt_ediv_add_one_mul_self ((2:Int)^63-1) (show 0<n by omega);exact this
  have h6:((2:Int)^63-1) / n<z.length:=h5;have h7:((2:Int)^63-1) / n+1<=1000:=by lia
  have h8:((2^63-1) / n+1)*n<=1000*1000:=by refine Int.le_trans (Int.mul_le_mul_of_nonneg_right h7 h0) ?_;exact Int.mul_le_mul_of_nonneg_left h1 (by decide)
  lia
 ·show decide (z.length*n.toNat>sizeLine)=false;exact FY (by lia)
 ·by_cases h3:n<1
  ·rw[FH h3];have e:n=0:=(by lia);subst e;exact⟨by decide,.str (rq z 0),H,I.tok _,⟨_,rfl⟩,q⟩
  ·rw[FA h3];by_cases h4:(n==1||z.length==0)=true
   ·rw[FH h4];have e:rq z n.toNat=z:=by
     rw[Bool.or_eq_true,beq_iff_eq,beq_iff_eq]at h4;rcases h4 with h4|h4
     ·subst h4;show(⟨#[]++z.cps⟩:Str)=z;simp
     ·have l0:=tO z n.toNat;rw[h4,Nat.zero_mul]at l0;have e1:(rq z n.toNat).cps= #[]:=Array.eq_empty_of_size_eq_zero l0;have e2:z.cps= #[]:=Array.eq_empty_of_size_eq_zero h4;cases z;cases hr:rq _ _;simp_all
    rw[e]at q;exact⟨.str z,H,I,⟨_,rfl⟩,q⟩
   ·rw[FA h4];refine⟨?_,.str (rq z n.toNat),H,I.tok _,⟨_,rfl⟩,q⟩;have l0:=tO z n.toNat;show(rq z n.toNat).length<=sizeLine
    lia
theorem yN:SlR X (fun x lo hi H Q=>∃z,x=.str z/\z.length<=sizeLine/\Q (.str (Txt.slice z lo hi)) H):=by
 intro pins s σ H x v vl vu lo hi sl Q I rx hs pl pu h;obtain⟨z,rfl,hz,q⟩:=h;obtain⟨t,rfl⟩:=rx;obtain⟨o,ho,hc,hd⟩:=hs;cases pl with
 |none=>
  cases pu with
  |none=>exact⟨"str",_,F.slot_str_getitem.lookup,typeIs_str _ _ _,wpAny_getItem_str_slice (l:=none) (u:=none) (st:=none) ⟨o,ho,hc,hd⟩ rfl (post_val_or_str ⟨FW (Txt.slice_le z _ _) hz,fun t' k=>⟨.str _,H,I.tok _,⟨_,rfl⟩,q⟩⟩)⟩
  |int j uj=>exact⟨"str",_,F.slot_str_getitem.lookup,typeIs_str _ _ _,wpAny_getItem_str_slice (l:=none) (u:=some (j,uj)) (st:=none) ⟨o,ho,hc,hd⟩ rfl (post_val_or_str ⟨FW (Txt.slice_le z _ _) hz,fun t' k=>⟨.str _,H,I.tok _,⟨_,rfl⟩,q⟩⟩)⟩
 |int i ui=>
  cases pu with
  |none=>exact⟨"str",_,F.slot_str_getitem.lookup,typeIs_str _ _ _,wpAny_getItem_str_slice (l:=some (i,ui)) (u:=none) (st:=none) ⟨o,ho,hc,hd⟩ rfl (post_val_or_str ⟨FW (Txt.slice_le z _ _) hz,fun t' k=>⟨.str _,H,I.tok _,⟨_,rfl⟩,q⟩⟩)⟩
  |int j uj=>exact⟨"str",_,F.slot_str_getitem.lookup,typeIs_str _ _ _,wpAny_getItem_str_slice (l:=some (i,ui)) (u:=some (j,uj)) (st:=none) ⟨o,ho,hc,hd⟩ rfl (post_val_or_str ⟨FW (Txt.slice_le z _ _) hz,fun t' k=>⟨.str _,H,I.tok _,⟨_,rfl⟩,q⟩⟩)⟩
end
def DF(x:Str):Prop:=∀c∈x.cps.toList,97<=c/\c<=122
def Fh(x:Str):Prop:=DF x/\1<=x.length/\x.length<=8
theorem BO(x y:Str):(x++y).length=x.length+y.length:=by show(x.cps++y.cps).size=x.cps.size+y.cps.size;simp
noncomputable abbrev Sh:=List (Str×Int×Int)
noncomputable def shE(p:Str×Int×Int):PyData:=.tuple [.str p.1,.tuple [.int p.2.1,.int p.2.2]]
noncomputable def shD(S:Sh):PyData:=.tuple (S.map shE)
def ShE(K:Frag)(H:Hp)(v:V)(p:Str×Int×Int):Prop:=∃r q,v=.ref r/\SqT K H r [.str p.1,.ref q]/\SqT K H q [.int p.2.1,.int p.2.2]
def ShT(K:Frag)(H:Hp)(a:Addr)(S:Sh):Prop:=∃vs,SqT K H a vs/\Paired (ShE K H) vs S
def TK(H H':Hp):Prop:=(∀a xs,H a=some (.tup xs)->H' a=some (.tup xs))/\∀a o xs,H a=some (.frz o (.tup xs))->H' a=some (.frz o (.tup xs))
theorem ak.tk{H H':Hp}(s:ak H H'):TK H H':=⟨fun _ _ e=>s _ _ e,fun _ _ _ e=>s _ _ e⟩
theorem TK.trans{H H1 H2:Hp}(a:TK H H1)(b:TK H1 H2):TK H H2:=⟨fun x y e=>b.1 x y (a.1 x y e),fun x o y e=>b.2 x o y (a.2 x o y e)⟩
theorem TK.lst{H:Hp}{D:Addr}{xs:List V}{o:HO}(hD:H D=some (.lst xs)):TK H (upd H D o):=
 ⟨fun _ _ e=>by rw[au (gU e hD (fun z=>nomatch z))];exact e,fun _ _ _ e=>by rw[au (gU e hD (fun z=>nomatch z))];exact e⟩
theorem TK.sq{K:Frag}{H H':Hp}{a:Addr}{xs:List V}(t:TK H H')(h:SqT K H a xs):SqT K H' a xs:=by
 rcases h with(h|⟨o,h⟩)|h
 ·exact .inl (.inl (t.1 _ _ h))
 ·exact .inl (.inr ⟨o,t.2 _ _ _ h⟩)
 ·exact .inr h
theorem Paired.imp{α β:Type}{R R':α->β->Prop}(h:∀x y,R x y->R' x y){xs:List α}{ys:List β}(hI:Paired R xs ys):Paired R' xs ys:=by
 induction hI with
 |nil=>exact .nil
 |cons a b ih=>exact .cons (h _ _ a) (ih)
theorem ShE.tk{K:Frag}{H H':Hp}{v:V}{p:Str×Int×Int}(s:TK H H')(h:ShE K H v p):ShE K H' v p:=by obtain⟨r,q,e,h1,h2⟩:=h;exact⟨r,q,e,s.sq h1,s.sq h2⟩
theorem ShT.tk{K:Frag}{H H':Hp}{a:Addr}{S:Sh}(s:TK H H')(h:ShT K H a S):ShT K H' a S:=by obtain⟨vs,e,r⟩:=h;exact⟨vs,s.sq e,Paired.imp (fun _ _=>ShE.tk s) r⟩
theorem AR{K:Frag}{H:Hp}{v:V}{p:Str×Int×Int}(h:ShE K H v p):IsD K H (shE p) v:=by obtain⟨r,q,rfl,h1,h2⟩:=h;exact .tup h1 (.cons (.str _) (.cons (.tup h2 (Em _ _)) .nil))
theorem yO{K:Frag}{H:Hp}{vs:List V}{S:Sh}(hI:Paired (ShE K H) vs S):d5 K H (S.map shE) vs:=by
 induction hI with
 |nil=>exact .nil
 |cons a b ih=>exact .cons (AR a) (ih)
theorem ShT.isD{K:Frag}{H:Hp}{a:Addr}{S:Sh}(h:ShT K H a S):IsD K H (shD S) (.ref a):=by obtain⟨vs,e,r⟩:=h;exact .tup e (yO r)
theorem wG:∀(S:Sh),(∀p∈S,PyData.canLay0 (.str p.1)=true)->PyData.canLayAll0 (S.map shE)=true
 | [],_=>rfl
 |p::S,h=>by have h1:=h p (Fw ..);have h2:=wG S fun q hq=>h q (Ft _ hq);show(PyData.canLay0 (shE p)&&PyData.canLayAll0 (S.map shE))=true;rw[h2,Bool.and_true];show(PyData.canLay0 (.str p.1)&&true)=true;rw[h1];rfl
theorem CZ{S:Sh}(h:∀p∈S,PyData.canLay0 (.str p.1)=true):(shD S).canLay0=true:=wG S h
theorem wX:∀(S:Sh),PyData.depthAll (S.map shE)<=3
 | []=>by show(0:Nat)<=3;decide
 |p::S=>by
  have h:=wX S;have h2:(shE p).depth<=3:=by show(2:Nat)<=3;decide
  show max _ _<=3;exact Nat.max_le.mpr ⟨h2,h⟩
theorem DF.lay{x:Str}(h:DF x):PyData.canLay0 (.str x)=true:=by show x.cps.all (·<0x110000)=true;rw[<-Array.all_toList,List.all_eq_true];intro c hc;have:=h c hc;exact FQ (by lia)
theorem aM{α β:Type}{R:α->β->Prop}:∀{xs:List α}{ys:List β}{i:Nat}{x:α},Paired R xs ys->xs[i]?=some x->∃y,ys[i]?=some y/\R x y
 |_,_,_,_,.nil,e=>by simp at e
 |_,_,0,_,.cons a _,e=>by simp at e;subst e;exact⟨_,rfl,a⟩
 |_,_,i+1,x,.cons _ b,e=>by obtain⟨y,h1,h2⟩:=aM (i:=i) (x:=x) b (by simpa using e);exact⟨y,by simpa using h1,h2⟩
noncomputable abbrev Ws:=List (Str×Int)
noncomputable def hX(ws:Ws):Int:=(ws.map (·.2)).sum
theorem Paired.app{α β:Type}{R:α->β->Prop}{xs xs':List α}{ys ys':List β}(hI:Paired R xs ys):Paired R xs' ys'->Paired R (xs++xs') (ys++ys'):=by
 induction hI with
 |nil=>exact fun h=>h
 |cons a b ih=>exact fun h=>.cons a (ih h)
end L2
namespace L2
theorem Bz{t b:Int}(ht:0<t)(hb:0<b):0<frT t b:=by
 have e:=Dj t b;have g:=jt (t:=t) hb;rcases Int.lt_trichotomy (frT t b) 0 with z|z|z
 ·have:=Int.mul_neg_of_neg_of_pos z g
  lia
 ·rw[z]at e
  lia
 ·exact z
end L2
namespace L2
open PySem PySem.Spec PyProof.Rows
section
variable{X:Cx}
def D8(K:Frag):List V->Hp->VK->Prop:=fun xs H Q=>∃(x c:V)(a:Addr)(ys:List V)(b:Bool)(cv:Value),xs=[x,c]/\x=.ref a/\SqT K H a ys/\RelV c cv/\(∀u,RelV c u->u=cv)/\kitOne K (.type "tuple") cv=some b/\Q (.bl b) H
theorem Ac:fh X (.builtin "isinstance") (D8 X.K):=by intro pins s σ H xs us Q I r h;obtain⟨x,c,a,ys,b,cv,rfl,rfl,hx,rc,uc,e,q⟩:=h;obtain⟨u1,u2,rfl,r1,r2⟩:=vals2 r;cases r1;obtain rfl:=uc u2 r2;obtain⟨its,rv,⟨o,h1,h2,_⟩,hz⟩:=I.tuple hx;exact GN PySem.W.kitx_tuple I.kIn ⟨o,h1,h2⟩ e (fun z=>nomatch z) fun tk=>⟨.bl b,H,I.tok _,rfl,q⟩
end
def leS(a b:Str):Prop:=ltCps b.cps.toList a.cps.toList=false
theorem AK{a b:Str}(h:a.cps.toList=b.cps.toList):a=b:=by cases a;cases b;congr 1;exact Array.toList_inj.mp h
structure DC(f:Int×Int):Prop where
 pos:0<f.2
 cop:Int.gcd f.1 f.2=1
theorem wN(t:Int){b:Int}(h:0<b):DC (frT t b,frB t b):=⟨wO h,Dk h⟩
noncomputable def FIN:Int:=1000000000000000000000000000000000000000000000000000000000000
theorem iK{α:Type}{l:List α}{i:Nat}{x:α}(h:l[i]?=some x):l.drop i=x::l.drop (i+1):=by rw[List.drop_eq_getElem?_toList_append,h];rfl
theorem nM{K:Frag}{a:Addr}{xs:List V}{g:TG}{tt:TT}{te:TE}{σ0:St}{Q:Hp->Prop}{D:Addr}{H:Hp}(Pv:Nat->List V->Hp->Prop)(h0:Pv 0 [] H)(hl:∀i acc H,i<=xs.length->Pv i acc H->SqT K H a xs)
  (hs:∀i x acc H2,xs[i]?=some x->Pv i acc H2->g x σ0 H2 fun σ2 H4=>tt σ2 H4 fun b H5=>if b=true then te σ2 H5 fun y H6=>H6 D=some (.lst acc)/\acc.length<sizeLine/\Pv (i+1) (acc++[y]) (upd H6 D (.lst (acc++[y])))else Pv (i+1) acc H5)
  (hd:∀acc H2,Pv xs.length acc H2->Q H2):
  ∃W:Nat->Nat->List V->Hp->Prop,(∃m,W 0 m [] H)/\∀i m acc H2,W i m acc H2->
   ((Itt K a).stop i H2/\Q H2)\/((Itt K a).go i H2/\∃N:List V->Hp->Prop,(∀acc' H',N acc' H'->∃m',m'<m/\W (i+1) m' acc' H')/\∀x H3,(Itt K a).yld i H2 x H3->g x σ0 H3 fun σ2 H4=>tt σ2 H4 fun b H5=>if b=true then te σ2 H5 fun y H6=>H6 D=some (.lst acc)/\acc.length<sizeLine/\N (acc++[y]) (upd H6 D (.lst (acc++[y])))else N acc H5):=by
 refine⟨fun i m acc H=>m=xs.length-i/\i<=xs.length/\Pv i acc H,⟨xs.length,by simp,F1 _,h0⟩,?_⟩;rintro i m acc H2 ⟨rfl,hi,p⟩;have q:=hl i acc H2 hi p;by_cases hlt:i<xs.length
 ·refine .inr ⟨⟨xs,xs[i],q,by simp[hlt]⟩,Pv (i+1),fun acc' H' p'=>⟨xs.length-(i+1),by omega,rfl,hlt,p'⟩,fun x H3 y=>?_⟩;obtain⟨e,y⟩:=y;subst e;exact hs i x acc _ (y xs q) p
 ·have e:i=xs.length:=by omega
  subst e;exact .inl ⟨⟨xs,q,Fv _⟩,hd acc H2 p⟩
theorem oZ{l:List Str}(h:∀x∈l,PyData.canLay0 (.str x)=true):PyData.canLayAll0 (l.map PyData.str)=true:=by
 induction l with
 |nil=>rfl
 |cons x l ih=>show(PyData.canLay0 (.str x)&&PyData.canLayAll0 (l.map PyData.str))=true;rw[h x (Fw ..),ih fun y hy=>h y (Ft _ hy)];rfl
theorem jD{K:Frag}{H:Hp}:∀(l:List Str),d5 K H (l.map PyData.str) (l.map V.str)
 | []=>.nil
 |_::l=>.cons (.str _) (jD l)
noncomputable def Dl(t b:Int):Int×Int:=(frT t b,frB t b)
theorem BA(t:Int){b:Int}(h:0<b):DC (Dl t b):=wN t h
noncomputable def gE:Key->PyData
 | .inl i=>.int i
 | .inr x=>.str x
noncomputable def jK(ks:List Key):PyData:=.tuple (ks.map gE)
noncomputable def iw(c:List (List Key)):PyData:=.tuple (c.map jK)
noncomputable def vt:Key->Bool
 | .inl _=>true
 | .inr x=>PyData.canLay0 (.str x)
theorem sL(a b:Key):PyData.eqv (gE a) (gE b)=decide (a=b):=by
 cases a with
 |inl i=>
  cases b with
  |inl j=>
   show(i==j)=_;by_cases h:i=j
   ·subst h;simp
   ·simp[h]
  |inr y=>rfl
 |inr x=>
  cases b with
  |inl j=>rfl
  |inr y=>
   show(x==y)=_;by_cases h:x=y
   ·subst h;simp
   ·simp[h]
theorem wb:∀(a b:List Key),PyData.eqvAll (a.map gE) (b.map gE)=decide (a=b)
 | [],[]=>rfl
 | [],_::_=>rfl
 |_::_,[]=>rfl
 |x::a,y::b=>by
  show(PyData.eqv (gE x) (gE y)&&PyData.eqvAll (a.map gE) (b.map gE))=_;rw[sL,wb a b];by_cases h1:x=y
  ·by_cases h2:a=b
   ·simp[h1,h2]
   ·simp[h1,h2]
  ·simp[h1]
theorem pB:∀(a b:List (List Key)),PyData.eqvAll (a.map jK) (b.map jK)=decide (a=b)
 | [],[]=>rfl
 | [],_::_=>rfl
 |_::_,[]=>rfl
 |x::a,y::b=>by
  show(PyData.eqvAll (x.map gE) (y.map gE)&&PyData.eqvAll (a.map jK) (b.map jK))=_;rw[wb,pB a b];by_cases h1:x=y
  ·by_cases h2:a=b
   ·simp[h1,h2]
   ·simp[h1,h2]
  ·simp[h1]
theorem sV(a b:List (List Key)):PyData.eqv (iw a) (iw b)=decide (a=b):=pB a b
theorem sx:∀(r:List Key),(∀k∈r,vt k=true)->PyData.canLayAll0 (r.map gE)=true
 | [],_=>rfl
 |k::r,h=>by
  have h1:PyData.canLay0 (gE k)=true:=by
   have:=h k (Fw ..);cases k with
   |inl i=>rfl
   |inr x=>exact this
  show(PyData.canLay0 (gE k)&&PyData.canLayAll0 (r.map gE))=true;rw[h1,sx r fun x hx=>h x (Ft _ hx)];rfl
theorem gV:∀(c:List (List Key)),(∀r∈c,∀k∈r,vt k=true)->PyData.canLayAll0 (c.map jK)=true
 | [],_=>rfl
 |r::c,h=>by show(PyData.canLayAll0 (r.map gE)&&PyData.canLayAll0 (c.map jK))=true;rw[sx r (h r (Fw ..)),gV c fun x hx=>h x (Ft _ hx)];rfl
theorem wY:∀(r:List Key),PyData.depthAll (r.map gE)=0
 | []=>rfl
 |k::r=>by show max (gE k).depth (PyData.depthAll (r.map gE))=0;rw[wY r];cases k<;>rfl
theorem uE:∀(c:List (List Key)),PyData.depthAll (c.map jK)<=1
 | []=>by show(0:Nat)<=1;decide
 |r::c=>by
  have h:=uE c;have h2:(jK r).depth<=1:=by show PyData.depthAll (r.map gE)+1<=1;rw[wY];decide
  show max _ _<=1;exact Nat.max_le.mpr ⟨h2,h⟩
theorem lV(c:List (List Key)):(iw c).depth<=2:=by
 have:=uE c;show PyData.depthAll (c.map jK)+1<=2
 lia
section
variable{P:Program}{w:World}
inductive dj(P:Program)(w:World)(h:Heap):List (List Key)->List Value->Prop
 |nil:dj P w h [] []
 |cons {k:List Key} {a:Addr} {ks:List (List Key)} {vs:List Value}:IsTupleKey (bp P w) h k a->dj P w h ks vs->dj P w h (k::ks) (.ref a::vs)
def fV(P:Program)(w:World)(h:Heap)(c:List (List Key))(a:Addr):Prop:=
 (∀r∈c,∀k∈r,vt k=true)/\∃ob its n,h.get? a=some ob/\ob.cls=.type "tuple"/\ob.data=.seq its n/\dj P w h c its.toList
theorem dj.one{h:Heap}{x y:List (List Key)}{us:List Value}(p:dj P w h x us)(q:dj P w h y us):x=y:=by
 induction p generalizing y with
 |nil=>cases q;rfl
 |cons p1 _ ih=>
  cases q with
  |cons q1 q2=>rw[p1.inj q1,ih q2]
theorem fV.one{h:Heap}{x y:List (List Key)}{a:Addr}(p:fV P w h x a)(q:fV P w h y a):x=y:=by obtain⟨_,ob,its,n,p1,_,p3,p4⟩:=p;obtain⟨_,ob',its',n',q1,_,q3,q4⟩:=q;rw[p1]at q1;cases q1;rw[p3]at q3;injection q3 with e _;subst e;exact p4.one q4
theorem dj.stay{h h':Heap}{c:List (List Key)}{us:List Value}{d:Addr}{o:Obj}{es:Array DictEntry}{ep:Nat}(p:dj P w h c us)(ho:h.get? d=some o)(hd:o.data=.dict es ep)(hs:Heap.SameBut d h h'):dj P w h' c us:=by
 induction p with
 |nil=>exact .nil
 |cons p1 _ ih=>exact .cons (p1.keeps ho hd hs) ih
theorem fV.stay{h h':Heap}{c:List (List Key)}{a d:Addr}{o:Obj}{es:Array DictEntry}{ep:Nat}(p:fV P w h c a)(ho:h.get? d=some o)(hd:o.data=.dict es ep)(hs:Heap.SameBut d h h'):fV P w h' c a:=by
 obtain⟨l,ob,its,n,p1,p2,p3,p4⟩:=p;have ne:a≠d:=fun z=>by rw[z,ho]at p1;cases p1;rw[hd]at p3;cases p3
 exact⟨l,ob,its,n,(hs.2 a ne).trans p1,p2,p3,p4.stay ho hd hs⟩
theorem fV.tyIs{s:Shared}{c:List (List Key)}{a:Addr}(p:fV P w s.heap c a):s.TypeIs (.ref a) "tuple":=by obtain⟨_,ob,_,_,p1,p2,_⟩:=p;exact⟨ob,p1,p2⟩
theorem pY{h:Heap}{ks:List Key}{us:List Value}(hI:ItemsAre (bp P w) ks us):∃as,ReadsAll h us (ks.map gE) as:=by
 induction hI with
 |nil=>exact⟨_,.nil⟩
 |cons p1 p2 ih=>
  obtain⟨as,r⟩:=ih;rcases bP p1 with⟨i,t,rfl,rfl⟩|⟨x,t,rfl,rfl⟩
  ·exact⟨_,.cons (.int i t) r⟩
  ·exact⟨_,.cons (.str x t) r⟩
theorem uZ{h:Heap}{c:List (List Key)}{us:List Value}(hI:dj P w h c us):∃as,ReadsAll h us (c.map jK) as:=by
 induction hI with
 |nil=>exact⟨_,.nil⟩
 |cons p1 p2 ih=>obtain⟨as,r⟩:=ih;obtain⟨ob,its,n,q1,q2,q3,q4⟩:=p1;obtain⟨bs,r2⟩:=pY (h:=h) q4;exact⟨_,.cons (.tuple q1 q2 q3 r2) r⟩
theorem fV.reads{h:Heap}{c:List (List Key)}{a:Addr}(p:fV P w h c a):∃as,Reads h (.ref a) (iw c) as:=by obtain⟨_,ob,its,n,p1,p2,p3,p4⟩:=p;obtain⟨as,r⟩:=uZ p4;exact⟨_,.tuple p1 p2 p3 r⟩
noncomputable def sW(P:Program)(w:World)(c:List (List Key)):Int:=reduceHash (Builtin.Tuple.tupleHashOf (c.map (tupleKeyHash (bp P w))))
noncomputable def ir(c:List (List Key)):Nat:=(c.map fun r=>r.length+1).sum
variable{A:Around}{E:Value->Shared->Prop}{s:Shared}
theorem Ab{c:List (List Key)}{a:Addr}{Q:Int->Shared->Prop}(room:A.units+3<cLine)(p:fV P w s.heap c a)(q:Q (sW P w c) {s with toks:=s.toks+(ir c+1)}):
  wpAny (model P w) A (pyHash (.ref a)) Q E s:=by
 have ty:=p.tyIs;obtain⟨_,ob,its,n,p1,_,p3,p4⟩:=p;unfold pyHash
 first|unfold pyHashByItsType|skip
 first|refine Fl (wpAny_cRoomFor_or (.inr (by lia)) ?_)|skip
 refine Fl (wpAny_specialOf ty F.slot_tuple_hash.lookup ?_);show wpAny _ _ (if(some (Value.builtin "tuple.__hash__")==some Value.none)=true then _ else _) Q E s;rw[FA (by rw[beq_builtin_none];exact FP)];refine Fl (wpAny_specialOf ty F.slot_tuple_hash.lookup ?_);show wpAny _ _ (callSpecialIfBoundUnlessNone? (.ref a) "__hash__" _>>= _) Q E s;refine Fl (wpAny_callSpecialIfBoundUnlessNone?_slot ty F.slot_tuple_hash (GG F.slot_tuple_hash ty F.entry_tuple_hash ?_ (F.args_tuple_hash_1 _)));show wpAny _ _ (Builtin.Tuple.tupleItemsOf (.ref a)>>= _) _ _ s;refine Fl (wpAny_tupleItemsOf p1 p3 (Fl ?_));rw[<-Array.forIn_toList];refine wpAny_forIn_list _ (fun left (acc:Array Int) s'=>∃c1 c2,c=c1++c2/\dj P w s.heap c2 left/\acc.toList=c1.map (tupleKeyHash (bp P w))/\s'={s with toks:=s.toks+ir c1}) _ ?_ ?_ _ _ ⟨[],c,rfl,p4,rfl,rfl⟩
 ·rintro u left acc s' ⟨c1,c2,rfl,r,e,rfl⟩;cases r with
  | @cons k b ks vs r1 r2=>
   refine Fl (wpAny_pyHash_tuple (ks:=k) (by simp only[Around.in1_units];lia) r1 ?_);have fin:∃d1 d2,c1++k::ks=d1++d2/\dj P w s.heap d2 left/\(acc.push (tupleKeyHash (bp P w) k)).toList=d1.map (tupleKeyHash (bp P w))/\({s with toks:=s.toks+ir c1+(k.length+1)}:Shared)={s with toks:=s.toks+ir d1}:=
    ⟨c1++[k],ks,by simp,r2,by simp[e],by simp[ir,Nat.add_assoc]⟩
   first
    |exact Fo fin
    |exact Fl (Fo (Fo fin))
 ·rintro acc s' ⟨c1,c2,rfl,r,e,rfl⟩;cases r;rw[F3]at q;show wpAny _ _ (retInt (Builtin.Tuple.tupleHashOf acc.toList)) _ _ _;rw[e];refine wpAny_ret_mkInt ?_;unfold sW reduceHash at q;generalize Builtin.Tuple.tupleHashOf (c1.map (tupleKeyHash (bp P w)))=z at q ⊢;show wpAny _ _ (if(decide (-(2:Int)^63<=z)&&decide (z<2^63))=true then _ else _) Q E _;by_cases hz:(decide (-(2:Int)^63<=z)&&decide (z<2^63))=true
  ·rw[FH hz]at q ⊢;exact Fo (by simpa[Nat.add_assoc]using q)
  ·rw[FA hz]at q ⊢;exact Fl (wpAny_rule (Fo (by simpa[Nat.add_assoc]using q)))
theorem Dv{x y:List (List Key)}{a b:Addr}{Q:Bool->Shared->Prop}(room:A.units+3<cLine)(p:fV P w s.heap x a)(q:fV P w s.heap y b)(h:Q (decide (x=y)) s):wpAny (model P w) A (eqBool (.ref a) (.ref b)) Q E s:=by obtain⟨as,ra⟩:=p.reads;obtain⟨bs,rb⟩:=q.reads;have dx:=lV x;have dm:=Nat.min_le_left (iw x).depth (iw y).depth;rw[<-sV]at h;exact SeqAt.eqAt_reads _ _ A s _ _ _ _ ra rb (gV x p.1) (gV y q.1) (by lia) P w E Q h
end
section
variable{P:Program}{w:World}{A:Around}{E:Value->Shared->Prop}{s:Shared}
theorem xB{k:List Key}{a:Addr}(m:Nat){Q:Bool->Shared->Prop}(p:IsTupleKey (bp P w) s.heap k a)(q:Q true s):wpAny (model P w) A (eqIsQuiet (m+1) (.ref a)) Q E s:=by
 have ty:=p.typeIs;obtain⟨ob,its,n,p1,_,p3,p4⟩:=p;unfold eqIsQuiet;refine Fl (wpAny_specialOf ty F.slot_tuple_eq.lookup ?_);show wpAny _ _ (isInstance (.ref a) (.type "tuple")>>= _) _ _ s;refine Fl (wpAny_isInstance ty isSubtype_tuple_tuple ?_);simp only[Bool.not_true,Gk,if_false];refine Fl (wpAny_seqItems p1 p3 (Fl ?_));show wpAny _ _ (forIn its _ _) _ _ s;rw[<-Array.forIn_toList];refine wpAny_forIn_list _ (fun left r s'=>r.1=none/\s'=s/\∀v∈left,carriedByValue v=true) _ ?_ ?_ _ _ ⟨rfl,rfl,p4.byValue⟩
 ·rintro u left r s' ⟨hr,rfl,all⟩;rw[eqIsQuiet_byValue m (all u Fw)];refine Fl (Fo ?_);simp only[Bool.not_true,Gk,if_false];exact Fo ⟨rfl,rfl,fun z hz=>all z (Ft _ hz)⟩
 ·rintro⟨r1,r2⟩ s' ⟨hr,rfl,_⟩;simp only at hr;subst hr;exact Fo q
theorem yf{c:List (List Key)}{a:Addr}{Q:Bool->Shared->Prop}(p:fV P w s.heap c a)(q:Q true s):wpAny (model P w) A (eqIsQuiet 8 (.ref a)) Q E s:=by
 have ty:=p.tyIs;obtain⟨_,ob,its,n,p1,_,p3,p4⟩:=p;unfold eqIsQuiet;refine Fl (wpAny_specialOf ty F.slot_tuple_eq.lookup ?_);show wpAny _ _ (isInstance (.ref a) (.type "tuple")>>= _) _ _ s;refine Fl (wpAny_isInstance ty isSubtype_tuple_tuple ?_);simp only[Bool.not_true,Gk,if_false];refine Fl (wpAny_seqItems p1 p3 (Fl ?_));show wpAny _ _ (forIn its _ _) _ _ s;rw[<-Array.forIn_toList];refine wpAny_forIn_list _ (fun left r s'=>r.1=none/\s'=s/\∃c2,dj P w s.heap c2 left) _ ?_ ?_ _ _ ⟨rfl,rfl,c,p4⟩
 ·rintro u left r s' ⟨hr,rfl,c2,r2⟩;cases r2 with
  |cons r3 r4=>refine Fl (xB 6 r3 ?_);simp only[Bool.not_true,Gk,if_false];exact Fo ⟨rfl,rfl,_,r4⟩
 ·rintro⟨r1,r2⟩ s' ⟨hr,rfl,_⟩;simp only at hr;subst hr;exact Fo q
end
noncomputable def mi(P:Program)(w:World):HeapKind P w (List (List Key)) where
 is:=fV P w
 hash:=sW P w
 draws:=fun c=>ir c+1
 room:=fun A=>A.units+3<cLine
 inj:=fun p q=>p.one q
 keeps:=fun p ho hd hs=>p.stay ho hd hs
 pyHash:=fun hu p q=>Ab hu p q
 eqBool:=fun hu p q h=>Dv hu p q h
 quiet:=fun p q=>yf p q
noncomputable abbrev Col:=List (List Key)
noncomputable abbrev CT:=List (Col×Addr×V)
noncomputable def fT(a:Addr)(o:Obj):HO:=.ext fun h=>h.get? a=some o
theorem wC{P:Program}{w:World}{H:Hp}{h:Heap}{a:Addr}{o:Obj}(e:h.get? a=some o):bR P w H h a (fT a o):=⟨e,⟨o,e⟩,fun _ _ e1 k=>k o e1⟩
noncomputable def fQ:Obj:={cls:=.type "dict",data:=.dict #[]}
def CTv:CT->List (Col×Addr×Value)->Prop:=Paired fun(t:Col×Addr×V) (v:Col×Addr×Value)=>t.1=v.1/\t.2.1=v.2.1/\RelV t.2.2 v.2.2
structure tF(P:Program)(w:World)(o:Obj)(T:CT):Prop where
 ex:o.ExactDict
 len:T.length<=sizeLine
 es:∃es ep vs,o.data=.dict es ep/\es.toList=vs.map (entryOfKey (mi P w))/\CTv T vs/\(vs.map (·.1)).Nodup
theorem pE(P:Program)(w:World):tF P w fQ []:=⟨⟨rfl,rfl,rfl⟩,F1 _,#[],0,[],rfl,rfl,.nil,List.nodup_nil⟩
def bJ(K:Frag)(H:Hp)(b:Addr)(c:Col):Prop:=(∀r∈c,∀k∈r,vt k=true)/\∃xs,SqT K H b xs/\Paired (fun(v:V) (r:List Key)=>∃a,v=.ref a/\SqT K H a (r.map kV)) xs c
theorem bJ.tk{K:Frag}{H H':Hp}{b:Addr}{c:Col}(t:TK H H')(h:bJ K H b c):bJ K H' b c:=by obtain⟨l,xs,h1,h2⟩:=h;exact⟨l,xs,t.sq h1,Paired.imp (fun _ _ ⟨a,e,z⟩=>⟨a,e,t.sq z⟩) h2⟩
theorem TK.obj{H:Hp}{D:Addr}{ob:Obj}{o:HO}(hD:H D=some (fT D ob)):TK H (upd H D o):=
 ⟨fun _ _ e=>by rw[au (gU e hD (fun z=>nomatch z))];exact e,fun _ _ _ e=>by rw[au (gU e hD (fun z=>nomatch z))];exact e⟩
noncomputable def atT(T:CT)(c:Col):Option V:=(T.find? fun t=>decide (t.1=c)).map (·.2.2)
noncomputable def jZ(T:CT)(c:Col)(b:Addr)(v:V):CT:=if(T.any fun t=>decide (t.1=c))=true then T.map (fun t=>if t.1=c then(t.1,t.2.1,v)else t)else T++[(c,b,v)]
section
variable{X:Cx}{pins:List (Addr×Obj)}{σ:St}{H:Hp}{s:Shared}
theorem bJ.is{b:Addr}{c:Col}(I:Inv X pins σ H s)(h:bJ X.K H b c):fV X.prog X.w s.heap c b:=by
 obtain⟨l,xs,h1,h2⟩:=h;obtain⟨its,rv,⟨ob,e1,e2,n,e3⟩,_⟩:=I.tuple h1;refine⟨l,ob,its.toArray,n,e1,e2,e3,?_⟩;have key:∀{xs:List V}{its:List Value}{c:Col},Vals xs its->Paired (fun(v:V) (r:List Key)=>∃a,v=.ref a/\SqT X.K H a (r.map kV)) xs c->dj X.prog X.w s.heap c its:=by
  intro xs its c rv pr
  induction pr generalizing its with
  |nil=>cases rv;exact .nil
  |cons p1 _ ih=>
   obtain⟨a,rfl,ha⟩:=p1;cases rv with
   |cons r1 r2=>cases r1;obtain⟨its2,rv2,⟨ob2,f1,f2,n2,f3⟩,_⟩:=I.tuple ha;exact .cons ⟨ob2,its2.toArray,n2,f1,f2,f3,by simpa using mQ rv2⟩ (ih r2)
 simpa using key rv h2
theorem BE{T:CT}{vs:List (Col×Addr×Value)}(hI:CTv T vs):∀v∈vs,∃t∈T,t.1=v.1/\t.2.1=v.2.1:=by
 induction hI with
 |nil=>exact fun v hv=>by cases hv
 |cons a b ih=>
  intro v hv;rcases FL.mp hv with e|e
  ·subst e;exact⟨_,Fw ..,a.1,a.2.1⟩
  ·obtain⟨t,ht,h⟩:=ih v e;exact⟨t,Ft _ ht,h⟩
theorem tF.dict{d:Addr}{o:Obj}{T:CT}(I:Inv X pins σ H s)(hd:H d=some (fT d o))(ho:tF X.prog X.w o T)(hk:∀t∈T,bJ X.K H t.2.1 t.1):∃vs,CTv T vs/\s.heap.DictOfH (mi X.prog X.w) d vs:=by obtain⟨es,ep,vs,h1,h2,h3,h4⟩:=ho.es;have e:s.heap.get? d=some o:=(I.hok d _ hd).1;refine⟨vs,h3,o,es,ep,e,ho.ex,h1,h2,fun v hv=>?_,h4⟩;obtain⟨t,ht,e1,e2⟩:=BE h3 v hv;rw[<-e1,<-e2];exact(hk t ht).is I
theorem vJ{T:CT}{vs:List (Col×Addr×Value)}(h:CTv T vs):T.length=vs.length:=Fx h
theorem Aa{c:Col}{T:CT}{vs:List (Col×Addr×Value)}(hI:CTv T vs):(atT T c=none/\atKey vs c=none)\/∃v p,atT T c=some v/\atKey vs c=some p/\RelV v p.2:=by
 induction hI with
 |nil=>exact .inl ⟨rfl,rfl⟩
 | @cons t u _ _ a b ih=>
  by_cases h:t.1=c
  ·have h':u.1=c:=a.1.symm.trans h;refine .inr ⟨t.2.2,u.2,?_,?_,a.2.2⟩
   ·simp[atT,F6,h]
   ·simp[atKey,F6,h']
  ·have h':¬u.1=c:=fun z=>h (a.1.trans z);have ih:=ih;simpa[atT,atKey,F6,h,h']using ih
theorem Dt{c:Col}{T:CT}{vs:List (Col×Addr×Value)}(hI:CTv T vs):(T.any fun t=>decide (t.1=c))=(atKey vs c).isSome:=by
 induction hI with
 |nil=>exact rfl
 | @cons t u _ _ a b ih=>
  have ih:=ih;rw[GQ,ih];by_cases h:t.1=c
  ·have h':u.1=c:=a.1.symm.trans h;simp[atKey,F6,h,h']
  ·have h':¬u.1=c:=fun z=>h (a.1.trans z);simp[atKey,F6,h,h']
theorem Ds{c:Col}{v:V}{u:Value}(r:RelV v u){T:CT}{vs:List (Col×Addr×Value)}(hI:CTv T vs):CTv (T.map fun t=>if t.1=c then(t.1,t.2.1,v)else t) (vs.map (putAt c u)):=by
 induction hI with
 |nil=>exact .nil
 | @cons t q _ _ a b ih=>
  rw[FG,FG];refine .cons ?_ (ih);unfold putAt;by_cases h:t.1=c
  ·rw[FH h,FH (a.1.symm.trans h)];exact⟨a.1,a.2.1,r⟩
  ·rw[FA h,FA (fun z=>h (a.1.trans z))];exact a
theorem Dr{c:Col}{b:Addr}{v:V}{u:Value}(r:RelV v u){T:CT}{vs:List (Col×Addr×Value)}(h:CTv T vs):CTv (jZ T c b v) (storedH vs c b u):=by
 unfold jZ storedH;rw[Dt h];split
 ·exact Ds r h
 ·exact Paired.app h (.cons ⟨rfl,rfl,r⟩ .nil)
theorem yY(T:CT)(c:Col)(b:Addr)(v:V):(jZ T c b v).length<=T.length+1:=by
 unfold jZ;split
 ·rw[Fm];lia
 ·rw[Fz];simp
end
def Cq:TE:=fun _ H Q=>∀p,H p=none->(p==sysModules)=false->Q (.ref p) (upd H p (fT p fQ))
def mm(P:Program)(w:World)(K:Frag)(H:Hp)(d:Addr)(o:Obj)(T:CT):Prop:=H d=some (fT d o)/\tF P w o T/\(d==sysModules)=false/\∀t∈T,bJ K H t.2.1 t.1
def B0(P:Program)(w:World)(K:Frag)(td ty:TE):TE:=fun σ H Q=>td σ H fun x H1=>ty σ H1 fun y H2=>∃d o T b c v,x=.ref d/\mm P w K H2 d o T/\y=.ref b/\bJ K H2 b c/\atT T c=some v/\Q v H2
def Cr(P:Program)(w:World)(K:Frag)(td ty tx:TE):TE:=fun σ H Q=>td σ H fun x H1=>∃d o T,x=.ref d/\mm P w K H1 d o T/\ty σ H1 fun y H2=>tx σ H2 fun z H3=>∃o' T' b c,mm P w K H3 d o' T'/\y=.ref b/\bJ K H3 b c/\Q ((atT T' c).getD z) H3
def D3(P:Program)(w:World)(K:Frag)(td ty tv:TE):TS:=fun D σ H=>tv σ H fun v H1=>td σ H1 fun x H2=>ty σ H2 fun y H3=>∃d o T b c,x=.ref d/\mm P w K H3 d o T/\y=.ref b/\bJ K H3 b c/\T.length<1000/\∀o',tF P w o' (jZ T c b v)->D.nx σ (upd H3 d (fT d o'))
section
variable{X:Cx}{o i e f value:Expr}{td ty tv tx:TE}{pos pos' apos cpos:Pos}
theorem tX:PE X (.Dict [] [] pos) Cq:=fun pins s σ H Q I h=>wpAny_Dict_empty ⟨.ref s.heap.objs.size,_,I.laid (a:=s.heap.objs.size) (o:=fT s.heap.objs.size fQ) (t':=s.toks) (fun _ _ q=>Fn _ q) (Fv _) (wC (FT _ rfl)),rfl,h _ (I.hok.fresh (Fv _)) (beq_eq_false_iff_ne.mpr (GR (F4 I.big)))⟩
theorem rJ(hu:X.A.units+64<cLine)(ho:PE X o td)(hi:PE X i ty)(hs:BS i):PE X (.Subscript o i pos) (B0 X.prog X.w X.K td ty):=by
 intro pins s σ H Q I h;refine v9 PySem.F.slot_dict_getitem.lookup hs (thn (ho pins s σ H _ I h) fun u s1 hPz=>L2.ep3 hPz fun x H1 I1 rx q1=>thn (hi pins s1 σ H1 _ I1 q1) fun iv s2 hPz=>?_);obtain⟨y,H2,I2,ry,d,ob,T,b,c,v,ex,hc,ey,hb,hv,q2⟩:=hPz;subst ex ey;cases rx;cases ry;obtain⟨h1,h2,h3,h4⟩:=hc;obtain⟨vs,rv,DD⟩:=h2.dict I2 h1 h4;rcases Aa (c:=c) rv with⟨z,_⟩|⟨v',p,z1,z2,z3⟩
 ·rw[hv]at z;cases z
 ·rw[hv]at z1;cases z1;exact⟨DD.typeIs,wpAny_getItem_heap (show X.A.in1.units+3<cLine by simp only[Around.in1_units];lia) (hb.is I2) DD z2 ⟨v,H2,I2.tok _,z3,q2⟩⟩
theorem wj(hu:X.A.units+64<cLine)(ho:PE X o td)(hi:PE X i ty)(hv:PE X value tv)(hs:swapsWith value (some (.Subscript o i pos')) pos.line X.env=pure false):
  PS X (.Assign [.Subscript o i pos'] value pos) (D3 X.prog X.w X.K td ty tv):=by
 intro pins s σ H D I h;refine wpAny_Assign_Subscript (thn (hv pins s σ H _ I h) fun r s1 hPz=>L2.ep3 hPz fun v H1 I1 rv q1=>thn (ho pins s1 σ H1 _ I1 q1) fun u s2 hPz=>L2.ep3 hPz fun x H2 I2 rx q2=>thn (hi pins s2 σ H2 _ I2 q2) fun iv s3 hPz=>?_) hs;obtain⟨y,H3,I3,ry,d,ob,T,b,c,ex,hc,ey,hb,hl,q3⟩:=hPz;subst ex ey;cases rx;cases ry;obtain⟨h1,h2,h3,h4⟩:=hc;obtain⟨vs,rT,DD⟩:=h2.dict I3 h1 h4;have lt:=vJ rT;have sl:(1000:Nat)<=sizeLine:=by decide
 refine wpAny_setItem_heap (hsz:=by lia) (show X.A.in1.units+3<cLine by simp only[Around.in1_units];omega) (hb.is I3) DD fun h' DD' hs'=>?_;obtain⟨ob',es',ep',e1,e2,e3,e4,_,e6⟩:=DD';have ho':tF X.prog X.w ob' (jZ T c b v):=⟨e2,by have:=yY T c b v;lia,es',ep',_,e3,e4,Dr rv rT,e6⟩;exact⟨σ,_,sS I3 (by rw[h1];exact True.intro) hs' ⟨ob',e1⟩ (wC e1),q3 ob' ho'⟩
theorem zc(hu:X.A.units+64<cLine)(ho:PE X o td)(he:PE X e ty)(hf:PE X f tx)(m:M2 X o "get" apos e f cpos):PE X (.Call (.Attribute o "get" apos) [e,f] [] cpos) (Cr X.prog X.w X.K td ty tx):=by
 intro pins s σ H Q I h;refine wpAny_Call_method m.base m.few m.line PySem.F.plainAttrs_dict PySem.F.slot_dict_get PySem.F.type_dict_get (thn (ho pins s σ H _ I h) fun u s1 hPz=>?_);obtain⟨x,H1,I1,rx,d,ob,T,ex,hc,q1⟩:=hPz;subst ex;cases rx;obtain⟨h1,h2,h3,h4⟩:=hc;have e0:s1.heap.get? d=some ob:=(I1.hok d _ h1).1;refine⟨⟨ob,e0,h2.ex.1⟩,fun b q=>?_,?_⟩
 ·cases q;exact⟨ob,e0,h2.ex.2.1⟩
 rw[m.trees];refine Calls.callWith_builtin rfl (Calls.evalArgs_plain (Calls.spliced_cons (thn (he pins s1 σ H1 _ I1 q1) fun iv s2 hPz=>L2.ep3 hPz fun y H2 I2 ry q2=>Calls.spliced_cons (thn (hf pins s2 σ H2 _ I2 q2) fun fv s3 ⟨z,H3,I3,rz,ob',T',b,c,hc',ey,hb,q3⟩=>Calls.spliced_nil ?_))));subst ey;cases ry;obtain⟨g1,g2,g3,g4⟩:=hc';obtain⟨vs,rT,DD⟩:=g2.dict I3 g1 g4;refine call_meetsIn PySem.F.slot_dict_get DD.typeIs PySem.F.entry_dict_get (PySem.F.args_dict_get_3 _ _ _) (meetsH_dict_get_default (mi X.prog X.w) d b g3 fv) ⟨show X.A.in1.units+3<cLine by simp only[Around.in1_units];omega,c,vs,hb.is I3,DD,?_⟩;rcases Aa (c:=c) rT with⟨z1,z2⟩|⟨v',p,z1,z2,z3⟩
 ·rw[z1]at q3;rw[z2];exact⟨z,H3,I3.tok _,rz,q3⟩
 ·rw[z1]at q3;rw[z2];exact⟨v',H3,I3.tok _,z3,q3⟩
end
section
variable{P:Program}{w:World}{A:Around}{E:Value->Shared->Prop}{s:Shared}{it d:Addr}{i ep:Nat}{od:Obj}{es:Array DictEntry}
theorem vw{Q:Value->Shared->Prop}(nm:(d==sysModules)=false)(g:s.heap.get? d=some od)(x:od.ExactDict)(gd:od.data=.dict es ep)
  (q:Q (.ref s.heap.objs.size) {s with heap:=s.heap.push {cls:=.type "dict_keyiterator",data:=.fields #[.ref d,.int 0 0,.int es.size 0,.int ep 0]}}):wpAny (model P w) A (pyIter (.ref d)) Q E s:=by
 have ty:s.TypeIs (.ref d) "dict":=⟨od,g,x.1⟩;refine wpAny_pyIter_slot ty F.slot_dict_iter (GG F.slot_dict_iter ty F.entry_dict_iter ?_ (F.args_dict_iter_1 _));unfold Builtin.«dict.__iter__» Builtin.Dict.dictSlotNone;refine Fl (Fl (wpAny_notOrdered_dict ty ?_));refine Fo ?_;refine Fl (show wpAny (model P w) A.in1 (pure d) _ _ _ from Fo ?_);unfold Builtin.Dict.showsAll;rw[FA (by rw[nm];exact FP)];refine Fl (Fo (Fl (wpAny_dictEntries g gd (Fl (wpAny_dictEpoch g gd ?_)))));refine Fl (Gp (Fo ⟨_,rfl,"dict_keyiterator",_,⟨_,FT _ rfl,rfl⟩,G9.lookup,?_⟩));simpa[rawInt]using q
theorem xU{Q:Option Value->Shared->Prop}{en:DictEntry}(hit:s.heap.IsKeyIter it d i es.size ep)(g:s.heap.get? d=some od)(gd:od.data=.dict es ep)(hx:es[i]?=some en)
  (q:∀h',h'.IsKeyIter it d (i+1) es.size ep->Heap.SameBut it s.heap h'->Q (some en.key) {s with heap:=h'}):wpAny (model P w) A (pyNext (.ref it)) Q E s:=by
 obtain⟨oi,gi,ci,di⟩:=id hit;unfold pyNext;refine Fl (wpAny_attempt (GX (name:=Str.ofString "__next__") hit.typeIs G9 (GG G9 hit.typeIs F.entry_dict_keyiterator_next ?_ (F.args_dict_keyiterator_next_1 _))));refine Fl (Fo (Fl (Fl ?_)))
 first|refine Fl (wpAny_typeNameOfWhole_keyiter hit.typeIs (Fo ?_))|refine Fl (wpAny_typeNameOf_keyiter hit.typeIs (Fo ?_))
 refine Fl (wpAny_fieldsOf gi di ?_);have nown:Builtin.Dict_items.ownsTuple "dict_keyiterator"=false:=by decide
 simp only[nown,Gk,if_false];show wpAny _ _ (if(Value.ref d==Value.none)=true then _ else _) _ _ s;rw[FA (show ¬((Value.ref d==Value.none)=true)from FP)];refine Fl (Fo (Fl (wpAny_dictEntries g gd ?_)));rw[FA (by simp)];refine Fl (Fo (Fl (wpAny_dictEpoch g gd ?_)));rw[FA (by simp)];refine Fo ?_;simp only[show ¬((i:Int)<0)from by omega,if_false,Gg,hx];refine Fl ?_
 first|refine Fl (wpAny_typeNameOfWhole_keyiter hit.typeIs (Fo ?_))|refine Fl (wpAny_typeNameOf_keyiter hit.typeIs (Fo ?_))
 refine Fl (wpAny_isOneOf_keyiter hit.typeIs ?_);show wpAny _ _ (setField (.ref it) 1 (rawInt ((i:Int)+1))>>= _) _ _ s;refine Fl (wpAny_setField gi di (by simp) ?_);have nx:(s.heap.update it (Obj.mapFields (·.setIfInBounds 1 (rawInt ((i:Int)+1))))).IsKeyIter it d (i+1) es.size ep:=
  ⟨_,GF _ gi (Obj.isFreed_of_fields (Obj.data_mapFields di _)),(Obj.cls_mapFields ..).trans ci,by rw[Obj.data_mapFields di];simp[rawInt]⟩
 refine Fl (Gx (Fl (wpAny_isOneOf_keyiter (s:={s with heap:=s.heap.update it (Obj.mapFields (·.setIfInBounds 1 (rawInt ((i:Int)+1))))}) nx.typeIs ?_)));show wpAny _ _ (pure en.key) _ _ _;exact Fo (Fo ⟨_,rfl,Fo (q _ nx (Gu ..))⟩)
theorem zw{Q:Option Value->Shared->Prop}(hh:A.handled=none)(hit:s.heap.IsKeyIter it d i es.size ep)(g:s.heap.get? d=some od)(gd:od.data=.dict es ep)(hx:es.size<=i)
  (q:∀h',Heap.ExtBut it s.heap h'->Q none {s with heap:=h'}):wpAny (model P w) A (pyNext (.ref it)) Q E s:=by
 obtain⟨oi,gi,ci,di⟩:=id hit;unfold pyNext;refine Fl (wpAny_attempt (GX (name:=Str.ofString "__next__") hit.typeIs G9 (GG G9 hit.typeIs F.entry_dict_keyiterator_next ?_ (F.args_dict_keyiterator_next_1 _))));refine Fl (Fo (Fl (Fl ?_)))
 first|refine Fl (wpAny_typeNameOfWhole_keyiter hit.typeIs (Fo ?_))|refine Fl (wpAny_typeNameOf_keyiter hit.typeIs (Fo ?_))
 refine Fl (wpAny_fieldsOf gi di ?_);have nown:Builtin.Dict_items.ownsTuple "dict_keyiterator"=false:=by decide
 simp only[nown,Gk,if_false];show wpAny _ _ (if(Value.ref d==Value.none)=true then _ else _) _ _ s;rw[FA (show ¬((Value.ref d==Value.none)=true)from FP)];refine Fl (Fo (Fl (wpAny_dictEntries g gd ?_)));rw[FA (by simp)];refine Fl (Fo (Fl (wpAny_dictEpoch g gd ?_)));rw[FA (by simp)];refine Fo ?_;simp only[show ¬((i:Int)<0)from by omega,if_false,Gg,Array.getElem?_eq_none hx];refine Fl ?_
 first|refine Fl (wpAny_typeNameOfWhole_keyiter hit.typeIs (Fo ?_))|refine Fl (wpAny_typeNameOf_keyiter hit.typeIs (Fo ?_))
 show wpAny _ _ (setField (.ref it) 0 .none>>= _) _ _ s;refine Fl (wpAny_setField gi di (by simp) ?_);show wpAny _ _ (newExc (.type "StopIteration") []>>= _) _ _ _;simp only[newExc,newTuple];refine Fl (Fl (Gp ?_ (by size_fits)));refine Fl (m:=firstArgMember _ _) (wpAny_of_eq (a:=Value.none) (by first|rfl|(simp only[firstArgMember];rfl)) (Gp ?_ (by size_fits)));simp only[raiseNew];refine Fl (wpAny_handled ?_);rw[show A.in1.handled=none from hh];refine Fl (Fo (wpAny_throw ?_));refine Fl (wpAny_isInstance (b:=true) (T:="StopIteration") ⟨_,FT _ rfl,rfl⟩ isSubtype_stop ?_);exact Fo (q _ (((Gu ..).extBut.push _).push _))
end
noncomputable def Itc(d:Addr)(o:Obj)(T:CT):It:=
 ⟨fun i H=>H d=some (fT d o)/\i<T.length,fun i H x H'=>H'=H/\∃t,T[i]?=some t/\x=.ref t.2.1,fun i H=>H d=some (fT d o)/\T.length<=i⟩
theorem yG{P:Program}{w:World}{K:Frag}{tg:Expr}(d it:Addr)(o:Obj)(T:CT){es:Array DictEntry}{ep:Nat}(hd:o.data=.dict es ep)(hT:∃vs,es.toList=vs.map (entryOfKey (mi P w))/\CTv T vs):
  Turn P w K tg (Itc d o T) [it] it (fun i h=>h.IsKeyIter it d i es.size ep) where
 mem:=by simp
 obj:=fun i h st b hb=>by
  have e:b=it:=by simpa using hb
  subst e;obtain⟨o,e,c,d⟩:=st;exact⟨o,e,fun v z=>by rw[d]at z;cases z⟩
 keep:=fun i h h' st k=>st.at fun o e=>k it (by simp) o e
 item:=by
  intro X hP hw hK hc i pins s σ H E I hf st hg;obtain⟨ha,hi⟩:=hg;obtain⟨vs,e1,e2⟩:=hT;have lt:=vJ e2;have g:s.heap.get? d=some o:=(I.hok d _ ha).1;obtain⟨t,ht⟩:∃t,T[i]?=some t:=⟨T[i],by simp[hi]⟩;obtain⟨v,hv,r1,r2,r3⟩:=aM e2 ht;have he:es[i]?=some (entryOfKey (mi P w) v):=by rw[<-GW,e1,FO,hv];rfl
  obtain⟨f0,f1,f2,f3,f4,f5⟩:=hf it (by simp);refine xU st g hd he fun h' st' sb=>?_;have I1:Inv X pins σ H {s with heap:=h'}:=I.turned (t':=s.toks) (fun b o hb e=>(sb.2 b hb).trans e) f0 f1 f3 f4 f5;obtain⟨oi,e,c,d'⟩:=id st';exact⟨_,rfl,wL (s:={s with heap:=h'}) e c d' (by decide) ⟨.ref t.2.1,H,I1,by rw[r2];rfl,⟨rfl,t,ht,rfl⟩,st',fun b hb=>(hf b hb).1⟩⟩
 done:=by
  intro X hP hw hK hc i pins s σ H E I hf st hg;obtain⟨ha,hi⟩:=hg;obtain⟨vs,e1,e2⟩:=hT;have lt:=vJ e2;have g:s.heap.get? d=some o:=(I.hok d _ ha).1;have le:es.size=vs.length:=by rw[<-G1,e1,Fm]
  obtain⟨f0,f1,f2,f3,f4,f5⟩:=hf it (by simp);exact zw (I.ok.hd hc) st g hd (by lia) fun h' eb=>⟨rfl,I.turned (t':=s.toks) (fun b o hb e=>eb b o hb e) f0 f1 f3 f4 f5⟩
 self:=fun _ _ _ _ _ st h=>wpAny_pyIter_keyiter st h
section
variable{X:Cx}{tg:Expr}
def Fb(P:Program)(w:World)(tl:TE):TI:=fun σ H R=>tl σ H fun x H1=>∃d o T,x=.ref d/\H1 d=some (fT d o)/\tF P w o T/\(d==sysModules)=false/\R (Itc d o T) H1
theorem CC{l:Expr}{tl:TE}(hl:PE X l tl):PI X tg l (Fb X.prog X.w tl):=by
 intro pins s σ H R I h;refine thn (hl pins s σ H _ I h) fun v s1 hPz=>?_;obtain⟨x,H1,I1,r1,q1⟩:=hPz;obtain⟨d,o,T,rfl,hd,ho,nm,q⟩:=q1;cases r1;obtain⟨es,ep,vs,e1,e2,e3,e4⟩:=ho.es;have g:s1.heap.get? d=some o:=(I1.hok d _ hd).1;refine vw nm g ho.ex e1 ?_;refine⟨s1.heap.objs.size,[s1.heap.objs.size],_,_,H1,rfl,I1.kept (t':=s1.toks) fun b o e=>Fn _ e,yG d _ o T e1 ⟨vs,e2,e3⟩,⟨_,FT _ rfl,rfl,rfl⟩,fun b hb=>?_,q⟩;have e:b=s1.heap.objs.size:=by simpa using hb
 subst e;exact I1.fpOk (Fv _) (I1.hok.fresh (Fv _))
theorem Ey{d:Addr}{o:Obj}{T:CT}{g:TG}{tt:TT}{te:TE}{σ0:St}{Q:Hp->Prop}{D:Addr}{H:Hp}(Pv:Nat->List V->Hp->Prop)(h0:Pv 0 [] H)(hl:∀i acc H,i<=T.length->Pv i acc H->H d=some (fT d o))
  (hs:∀i t acc H2,T[i]?=some t->Pv i acc H2->g (.ref t.2.1) σ0 H2 fun σ2 H4=>tt σ2 H4 fun b H5=>if b=true then te σ2 H5 fun y H6=>H6 D=some (.lst acc)/\acc.length<sizeLine/\Pv (i+1) (acc++[y]) (upd H6 D (.lst (acc++[y])))else Pv (i+1) acc H5)
  (hd:∀acc H2,Pv T.length acc H2->Q H2):
  ∃W:Nat->Nat->List V->Hp->Prop,(∃m,W 0 m [] H)/\∀i m acc H2,W i m acc H2->
   ((Itc d o T).stop i H2/\Q H2)\/((Itc d o T).go i H2/\∃N:List V->Hp->Prop,(∀acc' H',N acc' H'->∃m',m'<m/\W (i+1) m' acc' H')/\∀x H3,(Itc d o T).yld i H2 x H3->g x σ0 H3 fun σ2 H4=>tt σ2 H4 fun b H5=>if b=true then te σ2 H5 fun y H6=>H6 D=some (.lst acc)/\acc.length<sizeLine/\N (acc++[y]) (upd H6 D (.lst (acc++[y])))else N acc H5):=by
 refine⟨fun i m acc H=>m=T.length-i/\i<=T.length/\Pv i acc H,⟨T.length,by simp,F1 _,h0⟩,?_⟩;rintro i m acc H2 ⟨rfl,hi,p⟩;have q:=hl i acc H2 hi p;by_cases hlt:i<T.length
 ·refine .inr ⟨⟨q,hlt⟩,Pv (i+1),fun acc' H' p'=>⟨T.length-(i+1),by lia,rfl,hlt,p'⟩,fun x H3 y=>?_⟩;obtain⟨e,t,ht,rfl⟩:=y;subst e;exact hs i t acc _ ht p
 ·have e:i=T.length:=by lia
  subst e;exact .inl ⟨⟨q,Fv _⟩,hd acc H2 p⟩
end
end L2
namespace PySem
namespace F
theorem vq:typeLookup (.type "list_reverseiterator") "__len__"=pure none:=by rw[typeLookup_type,builtinLookup_eq_fast];kernel_rfl
theorem uv:typeLookup (.type "list_reverseiterator") "__length_hint__"=pure (some (.builtin "list_reverseiterator.__length_hint__")):=by rw[typeLookup_type,builtinLookup_eq_fast];kernel_rfl
theorem AH:isSubtype (.type "list_reverseiterator") (.type "list_reverseiterator")=pure true:=by rw[isSubtype_type];kernel_rfl
end F
section
variable{prog:Program}{w:World}{A:Around}{E:Value->Shared->Prop}{s:Shared}{r l:Addr}{items:Array Value}
theorem yR{Q:Bool->Shared->Prop}(ty:s.TypeIs (.ref r) "list_reverseiterator")(q:Q false s):wpAny (model prog w) A (Builtin.List.listLengthHint (.ref r)) Q E s:=by
 unfold Builtin.List.listLengthHint;refine Fl (wpAny_specialOf ty F.vq ?_)
 wp_delta
 refine wpAny_ite_split (fun z=>absurd z (by decide+kernel)) (fun _=>?_);refine wpAny_ite_split (fun z=>absurd z (by decide)) (fun _=>?_);refine Fl (wpAny_specialOf ty F.uv ?_);generalize hid:("list_reverseiterator.__length_hint__":String)=id0
 wp_delta
 rw[show splitId id0=some ("list_reverseiterator","__length_hint__")from by subst hid;decide+kernel];subst hid;refine Fl (wpAny_isInstance (b:=true) (T:="list_reverseiterator") ty F.AH ?_);refine wpAny_ite_split (fun z=>absurd z (by decide)) (fun _=>?_);refine wpAny_ite_split (fun _=>?_) (fun z=>absurd (by decide+kernel) z);refine wpAny_ite_split (fun z=>absurd z (by decide+kernel)) (fun _=>?_);exact Fo q
theorem AV{Q:Option Value->Shared->Prop}(hh:A.handled=none)(hit:s.heap.IsRevIter r l (-1))
  (q:∀h',(∀b o,s.heap.get? b=some o->h'.get? b=some o)->Q none {s with heap:=h'}):wpAny (model prog w) A (pyNext (.ref r)) Q E s:=by
 obtain⟨ob,g1,g2,g3⟩:=id hit;unfold pyNext;refine Fl (wpAny_attempt (GX (name:=Str.ofString "__next__") hit.typeIs F.slot_lri_next (GG F.slot_lri_next hit.typeIs F.entry_lri_next ?_ (F.args_lri_next_1 _))));unfold Builtin.«list_reverseiterator.__next__»;refine Fl (wpAny_of_eq (a:=(Value.ref r,[])) rfl ?_)
 try dsimp only
 refine Fl (wpAny_field g1 g3 (x:=rawInt (-1)) rfl ?_);show wpAny _ _ (if(-1:Int)<0 then _ else _) _ _ s;rw[FH (by decide)];refine Fl (wpAny_rule ?_)
 first
 |show wpAny _ _ (newExc (.type "StopIteration") []>>= _) _ _ _
 |(refine Fl ?_;show wpAny _ _ (newExc (.type "StopIteration") []>>= _) _ _ _)
 simp only[newExc,newTuple];refine Fl (Fl (Gp ?_ (by size_fits)));refine Fl (m:=firstArgMember _ _) (wpAny_of_eq (a:=Value.none) (by first|rfl|(simp only[firstArgMember];rfl)) (Gp ?_ (by size_fits)));simp only[raiseNew];refine Fl (wpAny_handled ?_)
 first|rw[show A.in1.handled=none from hh]|rw[hh]
 refine Fl (Fo (wpAny_throw ?_));refine Fl (wpAny_isInstance (b:=true) (T:="StopIteration") ⟨_,FT _ rfl,rfl⟩ isSubtype_stop ?_);exact Fo (q _ fun b o e=>Fn _ (Fn _ e))
theorem yQ{R:Result->Shared->Prop}(hh:A.handled=none)(hne:l≠r){S:Addr}(nr:S≠r)(nl:S≠l)(hn:items.size<=sizeLine):
  ∀(m:Nat)(s1:Shared)(acc:Array Value)(c:Nat),m<=items.size->s1.heap.IsRevIter r l ((m:Int)-1)->s1.heap.IsList l items->s1.heap.get? S=some {cls:=.type "list",dict:=none,data:=.seq acc c,slots:= #[]}->
   acc.toList=(items.toList.drop m).reverse->
   (∀h' tk acc' c',(∀b o,b≠r->b≠S->s1.heap.get? b=some o->h'.get? b=some o)->(∃o,h'.get? r=some o)->h'.get? S=some {cls:=.type "list",dict:=none,data:=.seq acc' c',slots:= #[]}->acc'.toList=items.toList.reverse->R (.ok (.ret .none)) {s1 with heap:=h',toks:=tk})->
   codeAny (model prog w) A (.builtin "list.extend.loop" ⟨[.ref S,.ref r,.none],[]⟩) R s1:=by
 intro m
 induction m with
 |zero=>intro s1 acc c _ it il g e q;refine codeAny_builtin F.entry_extend_loop ?_;rw[Around.under_plainId F.plain_extend_loop _];show wpAny _ A.in1 (pyNext (.ref r)>>= _) _ _ s1;refine Fl (AV (A:=A.in1) hh (by simpa using it) fun h' k=>?_);obtain⟨ob,g1,_⟩:=it;exact Fo (q h' _ acc c (fun b o _ _ e=>k b o e) ⟨_,k _ _ g1⟩ (k _ _ g) (by rw[e,List.drop_zero]))
 |succ m ih=>
  intro s1 acc c hm it il g e q;have hx:items[m]?=some (items[m]'(by lia)):=Array.getElem?_eq_getElem (by omega);refine codeAny_builtin F.entry_extend_loop ?_;rw[Around.under_plainId F.plain_extend_loop _];show wpAny _ A.in1 (pyNext (.ref r)>>= _) _ _ s1;have it':s1.heap.IsRevIter r l ((m:Nat):Int):=by have e1:(((m+1:Nat):Int)-1)=((m:Nat):Int):=(by lia);rw[e1]at it;exact it
  refine Fl (wpAny_pyNext_rev_item it' il hx fun h' it2 sb=>?_);have g2:h'.get? S=some {cls:=.type "list",dict:=none,data:=.seq acc c,slots:= #[]}:=(sb.2 S nr).trans g;have la:acc.size=items.size-(m+1):=by have:=congrArg List.length e;simp only[G1,List.length_reverse,GP]at this;exact this
  show wpAny _ A.in1 (updateSeq S (·.push (items[m]'(by lia)))>>= _) _ _ _;refine Fl (wpAny_updateSeq g2 rfl (Fo ⟨plainId_quiet F.plain_extend_loop _,?_⟩) (by rw[la];omega) (by show(acc.push _).size<=sizeLine+1;rw[Array.size_push,la];omega));have o2:∀b o,b≠S->h'.get? b=some o->(h'.update S (Obj.mapSeq (·.push (items[m]'(by omega))))).get? b=some o:=fun b o hb e=>(GL _ _ (GR hb)).trans e;refine ih _ (acc.push (items[m]'(by omega))) _ (by lia) (it2.at fun o e=>o2 r o (GR nr) e) (il.at fun o e=>o2 l o (GR nl) ((sb.2 l hne).trans e)) (GF _ g2 rfl) ?_ fun h3 tk3 acc3 c3 k3=>q h3 tk3 acc3 c3 fun b o hb hS e=>k3 b o hb hS (o2 b o hS ((sb.2 b hb).trans e));rw[Array.toList_push,e,List.drop_eq_getElem_cons (l:=items.toList) (i:=m) (by simpa using(by omega:m<items.size)),List.reverse_cons];simp
theorem qj{Q:Value->Shared->Prop}(hh:A.handled=none)(hit:s.heap.IsRevIter r l ((items.size:Int)-1))(hl:s.heap.IsList l items)(hne:l≠r)(hn:items.size<=sizeLine)
  (q:∀h' tk acc c',(∀b o,b≠r->s.heap.get? b=some o->h'.get? b=some o)->(∃o,h'.get? r=some o)->h'.get? s.heap.objs.size=some {cls:=.type "list",dict:=none,data:=.seq acc c',slots:= #[]}->
   acc.toList=items.toList.reverse->Q (.ref s.heap.objs.size) {s with heap:=h',toks:=tk}):wpAny (model prog w) A (call (.type "list") [.ref r]) Q E s:=by
 have lr:r<s.heap.objs.size:=by obtain⟨_,e,_⟩:=hit;exact FI e
 have ll:l<s.heap.objs.size:=by obtain⟨_,e,_⟩:=hl;exact FI e
 have nr:s.heap.objs.size≠r:=Nat.ne_of_gt lr;have nl:s.heap.objs.size≠l:=Nat.ne_of_gt ll;refine callType_codes (Q₁:=fun ob s₁=>ob=.ref s.heap.objs.size/\s₁={s with heap:=s.heap.push {cls:=.type "list",data:=.seq #[]}}) F.called_list (F.typeCall_list_1 _) F.entry_list_init (code_list_new _ ⟨rfl,rfl⟩) fun ob s₁ h₁=>?_;obtain⟨rfl,rfl⟩:=h₁;have g0:(s.heap.push {cls:=.type "list",data:=.seq #[]}).get? s.heap.objs.size=some {cls:=.type "list",data:=.seq #[]}:=FT _ rfl;refine⟨⟨_,g0,rfl⟩,F.args_list_init_2 _ _,?_⟩;have it1:(s.heap.push {cls:=.type "list",data:=.seq #[]}).IsRevIter r l ((items.size:Int)-1):=hit.at fun o e=>Fn _ e;have il1:(s.heap.push {cls:=.type "list",data:=.seq #[]}).IsList l items:=hl.push _;show wpAny _ _ (do let old <-Builtin.List.listItems (.ref s.heap.objs.size);Builtin.List.listUpdate (.ref s.heap.objs.size) (fun _=> #[]);letGo old.toList.reverse;Builtin.List.listExtendWith (.ref s.heap.objs.size) (.ref r) .none) _ _ _;unfold Builtin.List.listItems;refine Fl (Fl (wpAny_seqItems g0 rfl (Fo ?_)));show wpAny _ _ (updateSeq s.heap.objs.size (fun _=> #[])>>= fun _=>letGo (#[]:Array Value).toList.reverse>>= fun _=>Builtin.List.listExtendWith (.ref s.heap.objs.size) (.ref r) .none) _ _ _;refine Fl (wpAny_updateSeq g0 rfl ?_);have g1:=GF (Obj.mapSeq (fun _=>(#[]:Array Value))) g0 rfl;have o1:∀b o,b≠s.heap.objs.size->(s.heap.push {cls:=.type "list",data:=.seq #[]}).get? b=some o->((s.heap.push {cls:=.type "list",data:=.seq #[]}).update s.heap.objs.size (Obj.mapSeq (fun _=>(#[]:Array Value)))).get? b=some o:=
  fun b o hb e=>(GL _ _ (GR hb)).trans e
 have it2:=it1.at fun o e=>o1 r o (GR nr) e;have il2:=il1.at fun o e=>o1 l o (GR nl) e;have k2:∀b o,b≠s.heap.objs.size->s.heap.get? b=some o->((s.heap.push {cls:=.type "list",data:=.seq #[]}).update s.heap.objs.size (Obj.mapSeq (fun _=>(#[]:Array Value)))).get? b=some o:=fun b o hb e=>o1 b o hb (Fn _ e);obtain⟨c1,g1'⟩:∃c1,((s.heap.push {cls:=.type "list",data:=.seq #[]}).update s.heap.objs.size (Obj.mapSeq (fun _=>(#[]:Array Value)))).get? s.heap.objs.size=some {cls:=.type "list",data:=.seq #[] c1}:=⟨_,g1⟩;generalize ((s.heap.push {cls:=.type "list",data:=.seq #[]}).update s.heap.objs.size (Obj.mapSeq (fun _=>(#[]:Array Value))))=h2 at it2 il2 k2 g1' ⊢;refine Fl (wpAny_letGo ?_);unfold Builtin.List.listExtendWith;refine Fl (wpAny_typeOf (T:="list_reverseiterator") (Heap.IsRevIter.typeIs (s:={s with heap:=h2}) it2) ?_);have n1:Builtin.List.listSameRef (.ref s.heap.objs.size) (.ref r)=false:=by simp[Builtin.List.listSameRef,nr]
 have n2:(Value.type "list_reverseiterator"==Value.type "list")=false:=by decide
 have n3:(Value.type "list_reverseiterator"==Value.type "tuple")=false:=by decide
 simp only[n1,n2,n3,Bool.or_false,Gk,if_false];refine Fl (wpAny_pyIter_revIter it2 ?_);refine Fl (Gx (yR (s:={s with heap:=h2}) (Heap.IsRevIter.typeIs (s:={s with heap:=h2}) it2) ?_));refine wpAny_ite_split (fun z=>absurd z (by decide)) (fun _=>?_);refine Fo ⟨plainId_quiet F.plain_extend_loop _,?_⟩;refine yQ (A:=A.in1) hh hne nr nl hn items.size _ #[] c1 (Fv _) it2 il2 g1' (by simp) fun h' tk acc' c' k3 gr hS' e=>⟨rfl,q h' tk acc' c' (fun b o hb e=>?_) gr hS' e⟩;have lb:b<s.heap.objs.size:=FI e;exact k3 b o hb (F4 lb) (k2 b o (F4 lb) e)
end
end PySem
namespace L2
open PySem PySem.Spec PyProof.Rows
noncomputable def DB(r a:Addr)(n:Nat):HO:=.ext fun h=>h.IsRevIter r a ((n:Int)-1)
noncomputable def pM(r:Addr):HO:=.ext fun h=>∃o,h.get? r=some o
section
variable{X:Cx}
theorem qi:fh X (.type "reversed") (fun xs H Q=>∃a ys,xs=[.ref a]/\SqL X.K H a ys/\∀r,H r=none->Q (.ref r) (upd H r (DB r a ys.length))):=by intro pins s σ H xs us Q I r h;obtain⟨a,ys,rfl,ha,q⟩:=h;obtain⟨u,rfl,ru⟩:=vals1 r;cases ru;obtain⟨its,rv,pl,hz⟩:=I.list ha;have hl:=rv.length;refine call_reversed_list pl.isList ?_;refine⟨.ref s.heap.objs.size,_,I.laid (t':=s.toks) (o:=DB s.heap.objs.size a ys.length) (fun b o e=>Fn _ e) (Fv _) ?_,rfl,q _ (I.hok.fresh (Fv _))⟩;have it:(s.heap.push (revObj a ((its.toArray.size:Int)-1))).IsRevIter s.heap.objs.size a ((ys.length:Int)-1):=⟨_,FT _ rfl,rfl,by show Data.fields _=_;rw[Fu,hl]⟩;exact⟨it,let ⟨o,e,_⟩:=it;⟨o,e⟩,fun h1 h2 x k=>x.at k⟩
theorem tj(hc:X.calm=true):fh X (.type "list") (fun xs H Q=>∃r a ys,xs=[.ref r]/\H r=some (DB r a ys.length)/\SqL X.K H a ys/\∀l,H l=none->Q (.ref l) (upd (upd H r (pM r)) l (.lst ys.reverse))):=by
 intro pins s σ H xs us Q I rr h;obtain⟨r,a,ys,rfl,hr,ha,q⟩:=h;obtain⟨u,rfl,ru⟩:=vals1 rr;cases ru;obtain⟨its,rv,pl,hz⟩:=I.list ha;have hl:=rv.length;have it:s.heap.IsRevIter r a ((ys.length:Int)-1):=(I.hok r _ hr).1;have hI:=pl.isList;have ne:a≠r:=by obtain⟨o1,e1,c1,_⟩:=hI;obtain⟨o2,e2,c2,_⟩:=it;intro z;rw[z,e2]at e1;cases e1;rw[c2]at c1;exact absurd c1 (by decide)
 have it2:s.heap.IsRevIter r a ((its.toArray.size:Int)-1):=by rw[Fu,<-hl];exact it
 refine qj (I.ok.hd hc) it2 hI ne (by rw[Fu];omega) fun h' tk acc c' k gr g e=>?_;have hn:=I.hok.fresh (Fv s.heap.objs.size);have hnr:s.heap.objs.size≠r:=fun z=>by rw[z,hr]at hn;cases hn
 have I1:Inv X pins σ (upd H r (pM r)) {s with heap:=h',toks:=tk}:=I.write (x:=r) (e:=r) (by rw[hr];exact True.intro) (.inl rfl) (fun b o hb e=>k b o hb e) gr ⟨gr,gr,fun h1 h2 ⟨o,e⟩ kk=>⟨o,kk o e⟩⟩;have fD:kF X pins (upd H r (pM r)) s.heap.objs.size:=I.fpOk (Fv _) (by rw[au hnr];exact hn);have I2:=I1.track (t':=tk) (ys:=ys.reverse) (its:=acc.toList) (n:=c') fD (fun b o _ e=>e) (by rw[e];simpa using rv.reverse) (by rw[List.length_reverse];exact hz) (by simpa using g);exact⟨.ref s.heap.objs.size,_,I2,rfl,q _ hn⟩
end
end L2
namespace L2
open PySem PySem.Spec PyProof.Rows
open LM (bW cE gB)
instance memCol(c:Col)(D:List Col):Decidable (c∈D):=decidable_of_iff (D.any (fun x=>decide (x=c))=true) (by
 rw[List.any_eq_true]
 constructor
 ·rintro⟨x,hx,e⟩;rw[<-F7 e];exact hx
 ·intro h;exact⟨c,h,FQ rfl⟩)
noncomputable abbrev cf:=List (Nat×Col)
structure bj(g:Nat->Option Col)(R:cf):Prop where
 nd:(R.map (·.2)).Nodup
 ok:∀p∈R,p.1<2^64/\p.1≠0/\∀i,i<64->(p.1.testBit i=true<->g i=some p.2)
 all:∀i c,i<64->g i=some c->c∈R.map (·.2)
 so:R.Pairwise fun p q=>bW p.1<bW q.1
theorem xa{a b:Nat}(ha:a<2^64)(hb:b<2^64)(h:∀i,i<64->(a.testBit i=true<->b.testBit i=true)):a=b:=by
 refine Nat.eq_of_testBit_eq fun i=>?_;by_cases hi:i<64
 ·have:=h i hi;cases e1:a.testBit i<;>cases e2:b.testBit i<;>simp_all
 ·have z:∀{c:Nat},c<2^64->c.testBit i=false:=fun {c} hc=>Nat.testBit_lt_two_pow (FE hc (Gf (by decide) (by lia)));rw[z ha,z hb]
theorem bj.sub{g:Nat->Option Col}{R S:cf}(h:bj g R)(k:bj g S){p:Nat×Col}(hp:p∈R):p∈S:=by
 obtain⟨p1,p0,pb⟩:=h.ok p hp;obtain⟨b1,_⟩:=cE p1 p0;have lt:bW p.1<64:=gB p1 (by decide) p0;have hc:=k.all _ _ lt ((pb _ lt).mp b1);obtain⟨q,hq,e⟩:=Fp.mp hc;obtain⟨q1,q0,qb⟩:=k.ok q hq;have em:p.1=q.1:=xa p1 q1 fun i hi=>by rw[pb i hi,qb i hi,e]
 have:p=q:=Prod.ext em e.symm;rw[this];exact hq
theorem iH{R:cf}(h:(R.map (·.2)).Nodup):R.Nodup:=by
 induction R with
 |nil=>exact List.nodup_nil
 |cons p R ih=>rw[FG,Gv]at h;rw[Gv];exact⟨fun z=>h.1 (GZ z),ih h.2⟩
theorem bj.uniq{g:Nat->Option Col}{R S:cf}(h:bj g R)(k:bj g S):R=S:=by have pm:R.Perm S:=(List.perm_ext_iff_of_nodup (iH h.nd) (iH k.nd)).mpr fun p=>⟨h.sub k,k.sub h⟩;exact List.Perm.eq_of_pairwise (fun a b _ _ x y=>by lia) h.so k.so pm
structure xg(g:Nat->Option Col)(L:cf):Prop where
 lt:∀p∈L,p.1<2^64
 on:∀p∈L,∀i,i<64->p.1.testBit i=true->g i=some p.2
 has:∀i c,i<64->g i=some c->∃p∈L,p.2=c/\p.1.testBit i=true
theorem bj.grd{g:Nat->Option Col}{R:cf}(h:bj g R):xg g R:=by refine⟨fun p hp=>(h.ok p hp).1,fun p hp i hi b=>((h.ok p hp).2.2 i hi).mp b,fun i c hi e=>?_⟩;obtain⟨p,hp,ec⟩:=Fp.mp (h.all i c hi e);exact⟨p,hp,ec,((h.ok p hp).2.2 i hi).mpr (by rw[e,ec])⟩
noncomputable abbrev Grp:=List (Col×Nat)
noncomputable def gAt(D:Grp)(c:Col):Nat:=((D.find? fun t=>decide (t.1=c)).map (·.2)).getD 0
noncomputable def sP(D:Grp)(c:Col)(m:Nat):Grp:=if(D.any fun t=>decide (t.1=c))=true then D.map (fun t=>if t.1=c then(t.1,m)else t)else D++[(c,m)]
noncomputable def grp(L:cf):Grp:=L.foldl (fun D p=>if p.1=0 then D else sP D p.2 (gAt D p.2|||p.1)) []
theorem uz{L:cf}{i:Nat}{p:Nat×Col}(h:L[i]?=some p):grp (L.take (i+1))=if p.1=0 then grp (L.take i)else sP (grp (L.take i)) p.2 (gAt (grp (L.take i)) p.2|||p.1):=by unfold grp;rw[FJ,h,F2,List.foldl_append];rfl
theorem wM{D:Grp}{c:Col}(h:c∉D.map (·.1)):gAt D c=0:=by unfold gAt;rw[G7.mpr fun t ht z=>h (Fp.mpr ⟨t,ht,F7 z⟩)];rfl
theorem vF{D:Grp}(nd:(D.map (·.1)).Nodup){t:Col×Nat}(h:t∈D):gAt D t.1=t.2:=by
 induction D with
 |nil=>cases h
 |cons u D ih=>
  rw[FG,Gv]at nd;rcases FL.mp h with e|h
  ·subst e;simp[gAt,F6]
  ·have ne:¬u.1=t.1:=fun z=>nd.1 (by rw[z];exact GZ h);have:=ih nd.2 h;simpa[gAt,F6,ne]using this
theorem Di{D:Grp}{c:Col}:(D.any fun t=>decide (t.1=c))=true<->c∈D.map (·.1):=by
 rw[List.any_eq_true,Fp];constructor
 ·rintro⟨p,hp,h⟩;exact⟨p,hp,F7 h⟩
 ·rintro⟨p,hp,h⟩;exact⟨p,hp,FQ h⟩
theorem kr(D:Grp)(c:Col)(m:Nat):(sP D c m).map (·.1)=if c∈D.map (·.1)then D.map (·.1)else D.map (·.1)++[c]:=by
 unfold sP;by_cases h:c∈D.map (·.1)
 ·rw[FH (Di.mpr h),FH h,GB];refine List.map_congr_left fun t _=>?_;show(if t.1=c then(t.1,m)else t).1=t.1;split<;>rfl
 ·rw[FA (fun z=>h (Di.mp z)),FA h,FN];rfl
theorem zJ{D:Grp}{c:Col}{m:Nat}{t:Col×Nat}(h:t∈sP D c m):t=(c,m)\/(t∈D/\t.1≠c):=by
 unfold sP at h;split at h
 ·obtain⟨u,hu,rfl⟩:=Fp.mp h;by_cases e:u.1=c
  ·rw[FH e,e];exact .inl rfl
  ·rw[FA e];exact .inr ⟨hu,e⟩
 ·rename_i z;rcases FC.mp h with a|a
  ·exact .inr ⟨a,fun e=>z (Di.mpr (by rw[<-e];exact GZ a))⟩
  ·exact .inl (Fq.mp a)
structure nO(L:cf)(D:Grp):Prop where
 nd:(D.map (·.1)).Nodup
 ok:∀t∈D,t.2<2^64/\t.2≠0/\∀i,t.2.testBit i=true<->∃p∈L,p.2=t.1/\p.1.testBit i=true
 all:∀p∈L,p.1≠0->p.2∈D.map (·.1)
 sub:∀c∈D.map (·.1),c∈L.map (·.2)
theorem nO.nil:nO [] []:=⟨List.nodup_nil,fun _ h=>(nomatch h),fun _ h=>(nomatch h),fun _ h=>(nomatch h)⟩
theorem nO.step{L:cf}{D:Grp}(h:nO L D){p:Nat×Col}(hp:p.1<2^64):nO (L++[p]) (if p.1=0 then D else sP D p.2 (gAt D p.2|||p.1)):=by
 by_cases z:p.1=0
 ·rw[FH z];refine⟨h.nd,fun t ht=>?_,fun q hq q0=>?_,fun c hc=>?_⟩
  ·obtain⟨a,b,c⟩:=h.ok t ht;refine⟨a,b,fun i=>?_⟩;rw[c i];constructor
   ·rintro⟨q,hq,e⟩;exact⟨q,FR _ hq,e⟩
   ·rintro⟨q,hq,e1,e2⟩;rcases FC.mp hq with w|w
    ·exact⟨q,w,e1,e2⟩
    ·rw[Fq.mp w,z]at e2;simp at e2
  ·rcases FC.mp hq with w|w
   ·exact h.all q w q0
   ·rw[Fq.mp w]at q0;exact absurd z q0
  ·rw[FN];exact FR _ (h.sub c hc)
 ·rw[FA z];have old:∀i,(gAt D p.2).testBit i=true<->∃q∈L,q.2=p.2/\q.1.testBit i=true:=by
   intro i;by_cases hc:p.2∈D.map (·.1)
   ·obtain⟨t,ht,e⟩:=Fp.mp hc;have:=vF h.nd ht;rw[<-e,this];exact(h.ok t ht).2.2 i
   ·rw[wM hc];simp only[Nat.zero_testBit,Gk,false_iff];rintro⟨q,hq,e1,e2⟩;apply hc;rw[<-e1];refine h.all q hq fun w=>?_;rw[w]at e2;simp at e2
  have lt:gAt D p.2<2^64:=by
   by_cases hc:p.2∈D.map (·.1)
   ·obtain⟨t,ht,e⟩:=Fp.mp hc;rw[<-e,vF h.nd ht];exact(h.ok t ht).1
   ·rw[wM hc];decide
  refine⟨?_,fun t ht=>?_,fun q hq q0=>?_,fun c hc=>?_⟩
  ·rw[kr];split
   ·exact h.nd
   ·rename_i w;rw[GY];exact⟨h.nd,by simp,fun a ha b hb e=>w (by rw[Fq]at hb;rw[<-hb,<-e];exact ha)⟩
  ·rcases zJ ht with e|⟨hD,ne⟩
   ·subst e;refine⟨Nat.or_lt_two_pow lt hp,fun w=>z (by have:=Nat.right_le_or (n:=gAt D p.2) (m:=p.1);lia),fun i=>?_⟩;show(gAt D p.2|||p.1).testBit i=true<->_;rw[Nat.testBit_or,Bool.or_eq_true,old i];constructor
    ·rintro(⟨q,hq,e⟩|e)
     ·exact⟨q,FR _ hq,e⟩
     ·exact⟨p,by simp,rfl,e⟩
    ·rintro⟨q,hq,e1,e2⟩;rcases FC.mp hq with w|w
     ·exact .inl ⟨q,w,e1,e2⟩
     ·rw[Fq.mp w]at e2;exact .inr e2
   ·obtain⟨a,b,c⟩:=h.ok t hD;refine⟨a,b,fun i=>?_⟩;rw[c i];constructor
    ·rintro⟨q,hq,e⟩;exact⟨q,FR _ hq,e⟩
    ·rintro⟨q,hq,e1,e2⟩;rcases FC.mp hq with w|w
     ·exact⟨q,w,e1,e2⟩
     ·rw[Fq.mp w]at e1;exact absurd e1.symm ne
  ·rw[kr];have key:q.2∈D.map (·.1)\/q.2=p.2:=by
    rcases FC.mp hq with w|w
    ·exact .inl (h.all q w q0)
    ·rw[Fq.mp w];exact .inr rfl
   split
   ·rename_i w;rcases key with k|k
    ·exact k
    ·rw[k];exact w
   ·rcases key with k|k
    ·exact FR _ k
    ·rw[k];simp
  ·rw[kr]at hc;rw[FN];split at hc
   ·exact FR _ (h.sub c hc)
   ·rcases FC.mp hc with w|w
    ·exact FR _ (h.sub c w)
    ·rw[Fq.mp w];simp
theorem vB{L:cf}(h:∀p∈L,p.1<2^64):∀i,nO (L.take i) (grp (L.take i))
 | 0=>nO.nil
 |i+1=>by
  have ih:=vB h i;cases e:L[i]? with
  |none=>have hl:L.length<=i:=List.getElem?_eq_none_iff.mp e;rw[List.take_of_length_le (by lia)];rw[List.take_of_length_le hl]at ih;exact ih
  |some p=>rw[uz e,FJ,e,F2];exact ih.step (h p (Fs e))
theorem vA{g:Nat->Option Col}{L:cf}{D:Grp}(hg:xg g L)(hD:nO L D){R:cf}(pm:R.Perm (D.map fun t=>(t.2,t.1)))(so:R.Pairwise fun p q=>bW p.1<=bW q.1):bj g R:=by
 have mem:∀p,p∈R<->(p.2,p.1)∈D:=fun p=>by
  rw[pm.mem_iff,Fp];constructor
  ·rintro⟨t,ht,rfl⟩;exact ht
  ·intro h;exact⟨_,h,rfl⟩
 have nd:(R.map (·.2)).Nodup:=by
  have p2:(R.map (·.2)).Perm (D.map (·.1)):=by have:=pm.map (·.2);rwa[GB]at this
  exact p2.nodup_iff.mpr hD.nd
 have ok:∀p∈R,p.1<2^64/\p.1≠0/\∀i,i<64->(p.1.testBit i=true<->g i=some p.2):=by
  intro p hp;obtain⟨a,b,c⟩:=hD.ok _ ((mem p).mp hp);refine⟨a,b,fun i hi=>?_⟩;rw[c i];constructor
  ·rintro⟨q,hq,e1,e2⟩;rw[<-show q.2=p.2 from e1];exact hg.on q hq i hi e2
  ·intro e;obtain⟨q,hq,e1,e2⟩:=hg.has i _ hi e;exact⟨q,hq,e1,e2⟩
 refine⟨nd,ok,fun i c hi e=>?_,?_⟩
 ·obtain⟨q,hq,e1,e2⟩:=hg.has i c hi e;have hc:=hD.all q hq (fun w=>by rw[w]at e2;simp at e2);obtain⟨t,ht,e3⟩:=Fp.mp hc;exact Fp.mpr ⟨(t.2,t.1),(mem _).mpr ht,e3.trans e1⟩
 ·have nR:=iH nd;have both:=List.pairwise_and_iff.mpr ⟨so,nR⟩;refine List.Pairwise.imp_of_mem (fun {p q} hp hq ⟨le,ne⟩=>?_) both;obtain⟨p1,p0,pb⟩:=ok p hp;obtain⟨q1,q0,qb⟩:=ok q hq;have b1:=(cE p1 p0).1;have b2:=(cE q1 q0).1;have l1:bW p.1<64:=gB p1 (by decide) p0;rcases Nat.lt_or_eq_of_le le with w|w
  ·exact w
  ·exfalso;have e1:=(pb _ l1).mp b1;rw[<-w]at b2;have e2:=(qb _ l1).mp b2;rw[e1]at e2;have ec:p.2=q.2:=F0 e2;apply ne;refine Prod.ext (xa p1 q1 fun i hi=>by rw[pb i hi,qb i hi,ec]) ec
def fg(K:Frag)(H:Hp)(v:V)(p:Nat×Col):Prop:=∃r b,v=.ref r/\SqT K H r [.int (p.1:Nat),.ref b]/\bJ K H b p.2
theorem fg.tk{K:Frag}{H H':Hp}{v:V}{p:Nat×Col}(t:TK H H')(h:fg K H v p):fg K H' v p:=by obtain⟨r,b,e,h1,h2⟩:=h;exact⟨r,b,e,t.sq h1,h2.tk t⟩
def StrT(K:Frag)(H:Hp)(a:Addr)(R:cf):Prop:=∃vs,SqT K H a vs/\Paired (fg K H) vs R
theorem StrT.tk{K:Frag}{H H':Hp}{a:Addr}{R:cf}(t:TK H H')(h:StrT K H a R):StrT K H' a R:=by obtain⟨vs,h1,h2⟩:=h;exact⟨vs,t.sq h1,Paired.imp (fun _ _ z=>z.tk t) h2⟩
def TGr(T:CT)(D:Grp):Prop:=Paired (fun(t:Col×Addr×V) (d:Col×Nat)=>t.1=d.1/\t.2.2=.int (d.2:Nat)) T D
theorem yJ{c:Col}{T:CT}{D:Grp}(hI:TGr T D):(atT T c).getD (.int 0)=.int (gAt D c:Nat):=by
 induction hI with
 |nil=>exact rfl
 | @cons t d _ _ a b ih=>
  have ih:=ih;by_cases h:t.1=c
  ·have h':d.1=c:=a.1.symm.trans h;simp[atT,gAt,F6,h,h',a.2]
  ·have h':¬d.1=c:=fun z=>h (a.1.trans z);simpa[atT,gAt,F6,h,h']using ih
theorem AF{c:Col}{T:CT}{D:Grp}(hI:TGr T D):(T.any fun t=>decide (t.1=c))=D.any fun t=>decide (t.1=c):=by
 induction hI with
 |nil=>exact rfl
 | @cons t d _ _ a b ih=>exact by rw[GQ,GQ,ih,a.1]
theorem AE{c:Col}{m:Nat}{T:CT}{D:Grp}(hI:TGr T D):TGr (T.map fun t=>if t.1=c then(t.1,t.2.1,.int (m:Nat))else t) (D.map fun t=>if t.1=c then(t.1,m)else t):=by
 induction hI with
 |nil=>exact .nil
 | @cons t d _ _ a b ih=>
  rw[FG,FG];refine .cons ?_ (ih);by_cases h:t.1=c
  ·rw[FH h,FH (a.1.symm.trans h)];exact⟨a.1,rfl⟩
  ·rw[FA h,FA (fun z=>h (a.1.trans z))];exact a
theorem AD{c:Col}{b:Addr}{m:Nat}{T:CT}{D:Grp}(h:TGr T D):TGr (jZ T c b (.int (m:Nat))) (sP D c m):=by
 unfold jZ sP;rw[AF h];split
 ·exact AE h
 ·exact Paired.app h (.cons ⟨rfl,rfl⟩ .nil)
theorem xD{T:CT}{c:Col}{b:Addr}{v:V}{P:Col×Addr×V->Prop}(hT:∀t∈T,P t)(hn:P (c,b,v))(hs:∀t,P t->∀u,P (t.1,t.2.1,u)):∀t∈jZ T c b v,P t:=by
 intro t ht;unfold jZ at ht;split at ht
 ·obtain⟨u,hu,rfl⟩:=Fp.mp ht;split
  ·exact hs u (hT u hu) v
  ·exact hT u hu
 ·rcases FC.mp ht with a|a
  ·exact hT t a
  ·rw[Fq.mp a];exact hn
theorem yI{T:CT}{D:Grp}(h:TGr T D)(nd:(D.map (·.1)).Nodup){i:Nat}{t:Col×Addr×V}(ht:T[i]?=some t):∃d,D[i]?=some d/\t.1=d.1/\atT T t.1=some (.int (d.2:Nat)):=by
 obtain⟨d,hd,e1,e2⟩:=aM h ht;refine⟨d,hd,e1,?_⟩;have a:=yJ (c:=t.1) h;have g:=vF nd (Fs hd);rw[<-e1]at g;rw[g]at a;cases e:atT T t.1 with
 |some v=>rw[e]at a;exact congrArg some a
 |none=>
  exfalso;have m:t∈T:=Fs ht;have z:T.find? (fun u=>decide (u.1=t.1))=none:=by
   unfold atT at e;cases w:T.find? fun u=>decide (u.1=t.1)with
   |none=>rfl
   |some u=>rw[w]at e;cases e
  have:=G7.mp z t m;simp at this
theorem uS{K:Frag}{H:Hp}{xs ys:List V}{L:cf}(pr:Paired (fg K H) xs L)(h:An (L.map fun p=>((bW p.1:Nat):Int)) xs ys):∃R:cf,Paired (fg K H) ys R/\R.Perm L/\R.Pairwise fun p q=>bW p.1<=bW q.1:=by
 obtain⟨ps,hp,rfl,ho⟩:=h;have z:Paired (fun(p:Nat×Col) (q:Int×V)=>q.1=((bW p.1:Nat):Int)/\fg K H q.2 p) L ((L.map fun p=>((bW p.1:Nat):Int)).zip xs):=by
  clear hp ho
  induction pr with
  |nil=>exact .nil
  |cons a _ ih=>exact .cons ⟨rfl,a⟩ ih
 obtain⟨R,h1,h2⟩:=jn hp.symm z;refine⟨R,?_,h1.symm,?_⟩
 ·clear hp ho h1 z
  induction h2 with
  |nil=>exact .nil
  |cons a _ ih=>exact .cons a.2 ih
 ·clear hp h1 z
  induction h2 with
  |nil=>exact .nil
  | @cons p q l2 l1 a r ih=>
   rw[FG,List.pairwise_cons]at ho;rw[List.pairwise_cons];refine⟨fun p' hp'=>?_,ih ho.2⟩;have key:∀{l2:cf}{l1:List (Int×V)},Paired (fun(p:Nat×Col) (q:Int×V)=>q.1=((bW p.1:Nat):Int)/\fg K H q.2 p) l2 l1->∀p'∈l2,∃q'∈l1,q'.1=((bW p'.1:Nat):Int):=by
    intro l2 l1 w
    induction w with
    |nil=>intro p' h;cases h
    |cons x _ ih2=>
     intro p' h;rcases FL.mp h with e|e
     ·subst e;exact⟨_,Fw ..,x.1⟩
     ·obtain⟨q',h1,h2⟩:=ih2 p' e;exact⟨q',Ft _ h1,h2⟩
   obtain⟨q',hq',e⟩:=key r p' hp';have:=ho.1 q'.1 (GZ hq');rw[a.1,e]at this
   lia
end L2
namespace L2
open PySem PySem.Spec PyProof.Rows
section
variable{X:Cx}{o i e f value:Expr}{td ty tv tx:TE}{pos pos' apos cpos:Pos}{P:Program}{w:World}{K:Frag}
theorem zb(h1:X.prog=P)(h2:X.w=w)(h3:X.K=K)(hu:X.A.units+64<cLine)(ho:PE X o td)(hi:PE X i ty)(hs:BS i):PE X (.Subscript o i pos) (B0 P w K td ty):=by subst h1 h2 h3;exact rJ hu ho hi hs
end
noncomputable def tK(R:cf):PyData:=.tuple (R.map fun p=>.tuple [.int (p.1:Nat),iw p.2])
theorem oF{K:Frag}{H:Hp}:∀(r:List Key),d5 K H (r.map gE) (r.map kV)
 | []=>.nil
 |k::r=>by
  refine .cons ?_ (oF r);cases k with
  |inl i=>exact .int i
  |inr x=>exact .str x
theorem bJ.isD{K:Frag}{H:Hp}{b:Addr}{c:Col}(h:bJ K H b c):IsD K H (iw c) (.ref b):=by
 obtain⟨l,xs,h1,h2⟩:=h;refine .tup h1 ?_;clear h1 l
 induction h2 with
 |nil=>exact .nil
 |cons a _ ih=>obtain⟨x,rfl,hx⟩:=a;exact .cons (.tup hx (oF _)) ih
theorem xo{K:Frag}{H:Hp}{vs:List V}{R:cf}(hI:Paired (fg K H) vs R):d5 K H (R.map fun p=>.tuple [.int (p.1:Nat),iw p.2]) vs:=by
 induction hI with
 |nil=>exact .nil
 |cons a b ih=>obtain⟨r,x,rfl,h1,h2⟩:=a;exact .cons (.tup h1 (.cons (.int _) (.cons h2.isD .nil))) (ih)
theorem StrT.isD{K:Frag}{H:Hp}{a:Addr}{R:cf}(h:StrT K H a R):IsD K H (tK R) (.ref a):=by obtain⟨vs,h1,h2⟩:=h;exact .tup h1 (xo h2)
def EC(R:cf):Prop:=∀p∈R,∀r∈p.2,∀k∈r,vt k=true
theorem StrT.lay{K:Frag}{H:Hp}{a:Addr}{R:cf}(h:StrT K H a R):EC R:=by
 obtain⟨vs,h1,h2⟩:=h;clear h1
 induction h2 with
 |nil=>intro p hp;cases hp
 |cons a _ ih=>
  intro p hp;rcases FL.mp hp with e|e
  ·subst e;obtain⟨_,_,_,_,h⟩:=a;exact h.1
  ·exact ih p e
theorem uw:∀{R:cf},EC R->PyData.canLayAll0 (R.map fun p=>.tuple [.int (p.1:Nat),iw p.2])=true
 | [],_=>rfl
 |p::R,h=>by have h1:=gV p.2 (h p (Fw ..));have h2:=uw (R:=R) fun q hq=>h q (Ft _ hq);show((true&&(PyData.canLayAll0 (p.2.map jK)&&true))&&PyData.canLayAll0 (R.map fun p=>.tuple [.int (p.1:Nat),iw p.2]))=true;rw[h1,h2];rfl
theorem zV(R:cf):(tK R).depth<=5:=by
 have:∀(R:cf),PyData.depthAll (R.map fun p=>.tuple [.int (p.1:Nat),iw p.2])<=4:=by
  intro R
  induction R with
  |nil=>show(0:Nat)<=4;decide
  |cons p R ih=>
   have h:=lV p.2;have h2:(PyData.tuple [.int (p.1:Nat),iw p.2]).depth<=4:=by
    show max 0 (max (iw p.2).depth 0)+1<=4
    lia
   show max _ _<=4;exact Nat.max_le.mpr ⟨h2,ih⟩
 have h:=this R;show PyData.depthAll _+1<=5
 lia
def bS(K:Frag)(H:Hp)(v:V)(r:List Key):Prop:=(∀k∈r,vt k=true)/\∃a,v=.ref a/\SqT K H a (r.map kV)
theorem bS.tk{K:Frag}{H H':Hp}{v:V}{r:List Key}(t:TK H H')(h:bS K H v r):bS K H' v r:=by obtain⟨l,a,e,z⟩:=h;exact⟨l,a,e,t.sq z⟩
theorem bJ.of{K:Frag}{H:Hp}{b:Addr}{xs:List V}{c:Col}(h:SqT K H b xs)(p:Paired (bS K H) xs c):bJ K H b c:=by
 refine⟨?_,xs,h,Paired.imp (fun _ _ z=>z.2) p⟩;clear h
 induction p with
 |nil=>intro r hr;cases hr
 |cons a _ ih=>
  intro r hr;rcases FL.mp hr with e|e
  ·subst e;exact a.1
  ·exact ih r e
theorem Dy{α:Type}{xs:List α}{i:Int}(h0:0<=i)(h1:i<xs.length):∃x,x∈xs/\atI xs i=some x:=by
 obtain⟨n,rfl⟩:∃n:Nat,i=n:=⟨i.toNat,by lia⟩;have hn:n<xs.length:=by lia
 exact⟨xs[n],List.getElem_mem hn,az (by simp[hn])⟩
end L2
namespace L2
open PySem PySem.Spec PyProof.Rows
open LM (bW cE gB jB)
noncomputable def msk(g:Nat->Option Col):Nat->Col->Nat
 | 0,_=>0
 |i+1,c=>if g i=some c then msk g i c+2^i else msk g i c
noncomputable def bq(g:Nat->Option Col):Nat->List Col
 | 0=>[]
 |i+1=>match g i with
  |none=>bq g i
  |some c=>if c∈bq g i then bq g i else bq g i++[c]
theorem mK(g:Nat->Option Col)(c:Col):∀i,msk g i c<2^i
 | 0=>by show(0:Nat)<1;decide
 |i+1=>by have:=mK g c i;rw[Nat.pow_succ];show(if g i=some c then msk g i c+2^i else msk g i c)<_;split<;>lia
theorem fB(g:Nat->Option Col)(c:Col)(t:Nat):∀i,(msk g i c).testBit t=true<->t<i/\g t=some c
 | 0=>by show(0:Nat).testBit t=true<->_;simp
 |i+1=>by
  have ih:=fB g c t i;have lt:=mK g c i;show(if g i=some c then msk g i c+2^i else msk g i c).testBit t=true<->_;split
  ·rename_i h;rw[Nat.add_comm];rcases Nat.lt_trichotomy t i with z|z|z
   ·rw[Nat.testBit_two_pow_add_gt z,ih];exact⟨fun w=>⟨by lia,w.2⟩,fun w=>⟨z,w.2⟩⟩
   ·subst z;rw[Nat.testBit_two_pow_add_eq,Nat.testBit_lt_two_pow lt];exact⟨fun _=>⟨by lia,h⟩,fun _=>rfl⟩
   ·rw[Nat.testBit_lt_two_pow (show 2^i+msk g i c<2^t from FE (by rw[Nat.pow_succ];lia) (Gf (show 2>0 by decide) (show i+1<=t by lia)))];exact⟨fun w=>absurd w (by decide),fun w=>by lia⟩
  ·rename_i h;rw[ih];constructor
   ·rintro⟨a,b⟩;exact⟨by omega,b⟩
   ·rintro⟨a,b⟩;refine⟨Gn fun z=>h ?_,b⟩;have:t=i:=(by lia);rw[<-this];exact b
theorem gf(g:Nat->Option Col)(c:Col):∀i,c∈bq g i<->∃t,t<i/\g t=some c
 | 0=>by show c∈[]<->_;simp
 |i+1=>by
  have ih:=gf g c i;have ext:(∃t,t<i+1/\g t=some c)<->c∈bq g i\/g i=some c:=by
   rw[ih];constructor
   ·rintro⟨t,a,b⟩;rcases Nat.lt_or_ge t i with z|z
    ·exact .inl ⟨t,z,b⟩
    ·have:t=i:=(by lia);rw[this]at b;exact .inr b
   ·rintro(⟨t,a,b⟩|b)
    ·exact⟨t,by lia,b⟩
    ·exact⟨i,by omega,b⟩
  rw[ext];cases e:g i with
  |none=>have:bq g (i+1)=bq g i:=(by show(match g i with|none=>_|some c=>_)=_;rw[e]);rw[this];simp
  |some c'=>
   have:bq g (i+1)=if c'∈bq g i then bq g i else bq g i++[c']:=by show(match g i with|none=>_|some c=>_)=_;rw[e]
   rw[this];split
   ·rename_i h;constructor
    ·exact .inl
    ·rintro(z|z)
     ·exact z
     ·cases z;exact h
   ·rw[FC,Fq];constructor
    ·rintro(z|z)
     ·exact .inl z
     ·exact .inr (by rw[z])
    ·rintro(z|z)
     ·exact .inl z
     ·cases z;exact .inr rfl
theorem iL{g:Nat->Option Col}{i:Nat}(e:g i=none):bq g (i+1)=bq g i:=by show(match g i with|none=>_|some c=>_)=_;rw[e]
theorem lX{g:Nat->Option Col}{i:Nat}{c:Col}(e:g i=some c)(h:c∈bq g i):bq g (i+1)=bq g i:=by show(match g i with|none=>_|some c=>_)=_;rw[e];exact FH h
theorem jF{g:Nat->Option Col}{i:Nat}{c:Col}(e:g i=some c)(h:¬c∈bq g i):bq g (i+1)=bq g i++[c]:=by show(match g i with|none=>_|some c=>_)=_;rw[e];exact FA h
theorem lW(g:Nat->Option Col):∀i,(bq g i).Nodup
 | 0=>List.nodup_nil
 |i+1=>by
  have ih:=lW g i;cases e:g i with
  |none=>rw[iL e];exact ih
  |some c=>
   by_cases h:c∈bq g i
   ·rw[lX e h];exact ih
   ·rw[jF e h,GY];exact⟨ih,by simp,fun a ha b hb z=>h (by rw[Fq]at hb;rw[<-hb,<-z];exact ha)⟩
theorem sj{g:Nat->Option Col}{i:Nat}{c:Col}(h:c∈bq g i):msk g i c≠0:=fun z=>by obtain⟨t,a,b⟩:=(gf g c i).mp h;have:=(fB g c t i).mpr ⟨a,b⟩;rw[z]at this;simp at this
theorem sv{g:Nat->Option Col}{i:Nat}{c:Col}(hi:i<64)(h:c∈bq g i):bW (msk g (i+1) c)=bW (msk g i c):=by
 have lt:msk g i c<2^64:=FE (mK g c i) (Gf (by decide) (by lia));obtain⟨b1,b2,_⟩:=cE lt (sj h);have l1:=gB (mK g c i) (by omega) (sj h);refine jB (by lia) ((fB g c _ (i+1)).mpr ⟨by lia,((fB g c _ i).mp b1).2⟩) fun j hj=>?_;cases e:(msk g (i+1) c).testBit j with
 |false=>rfl
 |true=>have:=(fB g c j i).mpr ⟨by lia,((fB g c j (i+1)).mp e).2⟩;rw[b2 j hj]at this;cases this
theorem Bp{g:Nat->Option Col}{i:Nat}{c:Col}(hi:i<64)(e:g i=some c)(h:¬c∈bq g i):bW (msk g (i+1) c)=i:=by
 refine jB hi ((fB g c _ (i+1)).mpr ⟨by omega,e⟩) fun j hj=>?_;cases w:(msk g (i+1) c).testBit j with
 |false=>rfl
 |true=>exact absurd ((gf g c i).mpr ⟨j,hj,((fB g c j (i+1)).mp w).2⟩) h
theorem uF(g:Nat->Option Col):∀i,i<=64->(bq g i).Pairwise fun c d=>bW (msk g i c)<bW (msk g i d)
 | 0,_=>List.Pairwise.nil
 |i+1,hi=>by
  have ih:=uF g i (by lia);have up:(bq g i).Pairwise fun c d=>bW (msk g (i+1) c)<bW (msk g (i+1) d):=List.Pairwise.imp_of_mem (fun {c d} hc hd z=>by rw[sv (by lia) hc,sv (by omega) hd];exact z) ih;cases e:g i with
  |none=>rw[iL e];exact up
  |some c=>
   by_cases h:c∈bq g i
   ·rw[lX e h];exact up
   ·rw[jF e h,List.pairwise_append];refine⟨up,by simp,fun a ha b hb=>?_⟩;rw[Fq.mp hb,Bp (by omega) e h,sv (by omega) ha];exact gB (mK g a i) (by omega) (sj ha)
theorem uR(g:Nat->Option Col):bj g ((bq g 64).map fun c=>(msk g 64 c,c)):=by
 refine⟨?_,fun p hp=>?_,fun i c hi e=>?_,?_⟩
 ·rw[GB];show((bq g 64).map id).Nodup;rw[List.map_id];exact lW g 64
 ·obtain⟨c,hc,rfl⟩:=Fp.mp hp;refine⟨mK g c 64,sj hc,fun i hi=>?_⟩;rw[fB];exact⟨fun z=>z.2,fun z=>⟨hi,z⟩⟩
 ·rw[GB];exact Fp.mpr ⟨c,(gf g c 64).mpr ⟨i,hi,e⟩,rfl⟩
 ·rw[GI];exact uF g 64 (Fv _)
def GD(K:Frag)(H:Hp)(kvs:List (Key×V))(g:Nat->Option Col):Prop:=∀i:Nat,(eK kvs (.inl (i:Int))=none/\g i=none)\/∃b c,eK kvs (.inl (i:Int))=some (.ref b)/\g i=some c/\bJ K H b c
theorem GD.tk{K:Frag}{H H':Hp}{kvs:List (Key×V)}{g:Nat->Option Col}(t:TK H H')(h:GD K H kvs g):GD K H' kvs g:=fun i=>by
 rcases h i with z|⟨b,c,e1,e2,e3⟩
 ·exact .inl z
 ·exact .inr ⟨b,c,e1,e2,e3.tk t⟩
theorem GD.nil{K:Frag}{H:Hp}:GD K H [] fun _=>none:=fun _=>.inl ⟨rfl,rfl⟩
theorem GD.put{K:Frag}{H:Hp}{kvs:List (Key×V)}{g:Nat->Option Col}{k:Nat}{b:Addr}{c:Col}(h:GD K H kvs g)(hc:bJ K H b c):GD K H (putK kvs (.inl (k:Int)) (.ref b)) fun i=>if i=k then some c else g i:=fun i=>by
 rw[yE];by_cases e:i=k
 ·subst e;exact .inr ⟨b,c,FH rfl,FH rfl,hc⟩
 ·have e':¬(Sum.inl (i:Int):Key)=.inl (k:Int):=fun z=>e (by have:=Sum.inl.inj z;lia);show(_/\(if i=k then some c else g i)=none)\/∃b' c',_/\(if i=k then some c else g i)=some c'/\_;rw[FA e',FA e];exact h i
def qm(K:Frag)(H:Hp)(v:V)(c:Col):Prop:=∃b,v=.ref b/\bJ K H b c
theorem qm.tk{K:Frag}{H H':Hp}{v:V}{c:Col}(t:TK H H')(h:qm K H v c):qm K H' v c:=by obtain⟨b,e,z⟩:=h;exact⟨b,e,z.tk t⟩
theorem j6{α β:Type}{R:α->β->Prop}{as:List α}{bs:List β}(h:Paired R as bs){a:α}(ha:a∈as):∃b∈bs,R a b:=by obtain⟨i,hi,rfl⟩:=G0 ha;obtain⟨b,hb,r⟩:=aM h (Fy hi);exact⟨b,Fs hb,r⟩
end L2
namespace L2
open PySem PySem.Spec PyProof.Rows My
theorem wJ{n j:Nat}(h:j<n):ixN n (j:Int)=some j:=by unfold ixN;rw[FH (by omega),FH (by lia),Gg]
theorem Bk{g:Nat->Option Col}{i:Nat}{c:Col}(h:¬c∈bq g i):msk g i c=0:=by
 refine Nat.eq_of_testBit_eq fun t=>?_;rw[Nat.zero_testBit];cases e:(msk g i c).testBit t with
 |false=>rfl
 |true=>exact absurd ((gf g c i).mpr ⟨t,(fB g c t i).mp e⟩) h
end L2
namespace L2
open PySem PySem.Spec PyProof.Rows
theorem bj.congr{g g':Nat->Option Col}{R:cf}(h:bj g R)(e:∀i,i<64->g i=g' i):bj g' R:=by refine⟨h.nd,fun p hp=>?_,fun i c hi w=>h.all i c hi (by rw[e i hi];exact w),h.so⟩;obtain⟨a,b,c⟩:=h.ok p hp;exact⟨a,b,fun i hi=>by rw[c i hi,e i hi]⟩
theorem TK.dk{H:Hp}{D:Addr}{kvs:List (Key×V)}{o:HO}(hD:H D=some (.dK kvs)):TK H (upd H D o):=
 ⟨fun _ _ e=>by rw[au (gU e hD (fun z=>nomatch z))];exact e,fun _ _ _ e=>by rw[au (gU e hD (fun z=>nomatch z))];exact e⟩
theorem rL{α β:Type}{R:α->β->Prop}{as as':List α}(p:as.Perm as'):∀{bs:List β},Paired R as bs->∃bs':List β,bs'.Perm bs/\Paired R as' bs':=by
 intro bs h;have sw:∀{as:List α}{bs:List β},Paired R as bs->Paired (fun b a=>R a b) bs as:=by
  intro as bs h
  induction h with
  |nil=>exact .nil
  |cons a _ ih=>exact .cons a ih
 have ws:∀{as:List α}{bs:List β},Paired (fun b a=>R a b) bs as->Paired R as bs:=by
  intro as bs h
  induction h with
  |nil=>exact .nil
  |cons a _ ih=>exact .cons a ih
 obtain⟨d,h1,h2⟩:=jn p (sw h);exact⟨d,h1.symm,ws h2⟩
def du(r:List Key):Prop:=∃n k x m u,r=[.inl n,.inr k,.inr x,.inl m,.inl u]
noncomputable def av:List Key->Int
 | .inl n::_=>n
 |_=>0
structure ml(C:List Col)(T:Col):Prop where
 so:T.Pairwise fun a b=>av a<av b
 mem:∀r,r∈T<->∃c∈C,r∈c
theorem ml.uniq{C:List Col}{S T:Col}(h:ml C S)(k:ml C T):S=T:=by
 have nd:∀{T:Col},T.Pairwise (fun a b=>av a<av b)->T.Nodup:=fun z=>List.Pairwise.imp (fun {a b} w e=>by rw[e]at w;lia) z;have pm:S.Perm T:=(List.perm_ext_iff_of_nodup (nd h.so) (nd k.so)).mpr fun r=>by rw[h.mem,k.mem]
 exact List.Perm.eq_of_pairwise (fun a b _ _ x y=>by lia) h.so k.so pm
def KB(K:Frag)(H:Hp)(kv:Key×V)(r:List Key):Prop:=kv.1=.inl (av r)/\bS K H kv.2 r
theorem De{K:Frag}{H:Hp}{n:Int}{kvs:List (Key×V)}{D:List (List Key)}(hI:Paired (KB K H) kvs D):(kvs.any fun kv=>decide (kv.1=.inl n))=D.any fun d=>decide (av d=n):=by
 induction hI with
 |nil=>exact rfl
 | @cons kv d _ _ a b ih=>
  rw[GQ,GQ,ih,a.1];congr 1;by_cases h:av d=n
  ·rw[h,FQ rfl,FQ rfl]
  ·rw[FY h,FY (fun z=>h (Sum.inl.inj z))]
theorem Dd{K:Frag}{H:Hp}{v:V}{r:List Key}(hv:bS K H v r){kvs:List (Key×V)}{D:List (List Key)}(hI:Paired (KB K H) kvs D):(∀d∈D,av d=av r->d=r)->Paired (KB K H) (kvs.map fun kv=>if kv.1=.inl (av r)then(kv.1,v)else kv) D:=by
 induction hI with
 |nil=>exact fun _=>.nil
 | @cons kv d _ _ a b ih=>
  intro hu;rw[FG];refine .cons ?_ (ih fun d' hd'=>hu d' (Ft _ hd'));by_cases h:kv.1=.inl (av r)
  ·rw[FH h];have e:av d=av r:=Sum.inl.inj (a.1.symm.trans h);have:=hu d (Fw ..) e;subst this;exact⟨a.1,hv⟩
  ·rw[FA h];exact a
noncomputable def mY(D:List (List Key))(r:List Key):List (List Key):=if(D.any fun d=>decide (av d=av r))=true then D else D++[r]
theorem zy{K:Frag}{H:Hp}{v:V}{r:List Key}(hv:bS K H v r){kvs:List (Key×V)}{D:List (List Key)}(h:Paired (KB K H) kvs D)(hu:∀d∈D,av d=av r->d=r):Paired (KB K H) (putK kvs (.inl (av r)) v) (mY D r):=by
 unfold putK mY;rw[De h];split
 ·exact Dd hv h hu
 ·exact Paired.app h (.cons ⟨rfl,hv⟩ .nil)
theorem pJ{D:List (List Key)}{r x:List Key}(hu:∀d∈D,av d=av r->d=r):x∈mY D r<->x∈D\/x=r:=by
 unfold mY;split
 ·rename_i h;obtain⟨d,hd,e⟩:=List.any_eq_true.mp h;have:=hu d hd (F7 e);subst this;exact⟨.inl,fun z=>z.elim id fun w=>by rw[w];exact hd⟩
 ·rw[FC,Fq]
theorem tD{D:List (List Key)}{r:List Key}(nd:(D.map av).Nodup):((mY D r).map av).Nodup:=by
 unfold mY;split
 ·exact nd
 ·rename_i h;rw[FN,GY];refine⟨nd,by simp,fun a ha b hb e=>h ?_⟩;rw[FG,List.map_nil,Fq]at hb;obtain⟨d,hd,ed⟩:=Fp.mp ha;exact List.any_eq_true.mpr ⟨d,hd,FQ (by rw[ed,e,hb])⟩
theorem zx{K:Frag}{H:Hp}{n:Int}{kvs:List (Key×V)}{D:List (List Key)}(hI:Paired (KB K H) kvs D):n∈D.map av->∃v r,eK kvs (.inl n)=some v/\r∈D/\av r=n/\bS K H v r:=by
 induction hI with
 |nil=>exact fun h=>by cases h
 | @cons kv d _ _ a b ih=>
  intro h;by_cases z:av d=n
  ·exact⟨kv.2,d,cL (by rw[a.1,z]),Fw ..,z,a.2⟩
  ·rw[FG]at h;rcases FL.mp h with w|w
   ·exact absurd w.symm z
   ·obtain⟨v,r,h1,h2,h3,h4⟩:=ih w;exact⟨v,r,by rw[cM (fun y=>z (Sum.inl.inj (a.1.symm.trans y)))];exact h1,Ft _ h2,h3,h4⟩
theorem wH{K:Frag}{H:Hp}{kvs:List (Key×V)}{D:List (List Key)}(hI:Paired (KB K H) kvs D):(kvs.map fun q=>kV q.1)=(D.map av).map V.int:=by
 induction hI with
 |nil=>exact rfl
 |cons a b ih=>exact by rw[FG,FG,FG,ih,a.1];rfl
theorem mI{D:List (List Key)}(nd:(D.map av).Nodup):∀a∈D,∀b∈D,av a=av b->a=b:=by
 induction D with
 |nil=>intro a ha;cases ha
 |cons d D ih=>
  rw[FG,Gv]at nd;intro a ha b hb e;rcases FL.mp ha with z|z<;>rcases FL.mp hb with w|w
  ·rw[z,w]
  ·exact absurd (Fp.mpr ⟨b,w,by rw[<-e,z]⟩) nd.1
  ·exact absurd (Fp.mpr ⟨a,z,by rw[e,w]⟩) nd.1
  ·exact ih nd.2 a z b w e
theorem Ah{C:List Col}{D T:List (List Key)}{ns:List Int}(nd:(D.map av).Nodup)(hD:∀r,r∈D<->∃c∈C,r∈c)(pm:ns.Perm (D.map av))(so:ns.Pairwise (·<=·))(hT:T.map av=ns)(sub:∀r∈T,r∈D):ml C T:=by
 have inj:=mI nd;refine⟨?_,fun r=>?_⟩
 ·have n2:(T.map av).Nodup:=by rw[hT];exact pm.nodup_iff.mpr nd
  have s2:(T.map av).Pairwise (·<=·):=by rw[hT];exact so
  have both:=List.pairwise_and_iff.mpr ⟨s2,n2⟩;rw[GI]at both;exact List.Pairwise.imp (fun {a b} ⟨x,y⟩=>by have:av a≠av b:=y;lia) both
 ·rw[<-hD];refine⟨sub r,fun h=>?_⟩;have:av r∈T.map av:=by rw[hT];exact pm.mem_iff.mpr (GZ h)
  obtain⟨t,ht,e⟩:=Fp.mp this;rw[<-inj t (sub t ht) r h e];exact ht
theorem zY{xs:List V}{n:Nat}(hn:n<=xs.length):gO xs (some (n:Int)) none=xs.drop n:=by unfold gO;rw[HT.iD,HT.oE,Nat.min_eq_left hn];exact List.take_of_length_le (by rw[GP];lia)
theorem zZ{xs:List V}{n:Nat}(hn:n<=xs.length):gO xs none (some (n:Int))=xs.take n:=by unfold gO;rw[HT.iD,HT.oE,Nat.min_eq_left hn];rfl
theorem bG{α β:Type}{R:α->β->Prop}:∀{as:List α}{bs:List β}(n:Nat),Paired R as bs->Paired R (as.take n) (bs.take n)/\Paired R (as.drop n) (bs.drop n)
 |_,_,n,.nil=>by rw[List.take_nil,List.take_nil,List.drop_nil,List.drop_nil];exact⟨.nil,.nil⟩
 |_,_,0,.cons a b=>⟨.nil,.cons a b⟩
 |_,_,n+1,.cons a b=>⟨.cons a (bG n b).1,(bG n b).2⟩
section
variable{P:Program}{w:World}{A:Around}{E:Value->Shared->Prop}{s:Shared}{it a:Addr}{its:Array Value}{i:Nat}
theorem CO{Q:Value->Shared->Prop}{x:Value}(st:s.heap.IsTupleIter it a i)(g:s.heap.IsTuple a its)(hx:its[i]?=some x)
  (q:∀h',h'.IsTupleIter it a (i+1)->Heap.SameBut it s.heap h'->Q x {s with heap:=h'}):wpAny (model P w) A (Builtin.SmallTypes.nextOf (.ref it)) Q E s:=by
 obtain⟨oi,gi,ci,di⟩:=id st;obtain⟨ot,gt,_,n,dt⟩:=g;unfold Builtin.SmallTypes.nextOf;refine Fl (GX (name:=Str.ofString "__next__") st.typeIs F.slot_tuple_iterator_next (GG F.slot_tuple_iterator_next st.typeIs F.entry_tuple_iterator_next ?_ (F.args_tuple_iterator_next_1 _)));show wpAny _ _ (field (.ref it) 0>>= _) _ _ s;refine Fl (wpAny_field gi di (x:=.ref a) rfl ?_);show wpAny _ _ (if(Value.ref a==Value.none)=true then _ else _) _ _ s;rw[FA (show ¬((Value.ref a==Value.none)=true)from FP)];show wpAny _ _ (field (.ref it) 1>>= _) _ _ s;refine Fl (wpAny_field gi di (x:=.int i 0) rfl ?_);show wpAny _ _ (seqItems? (.ref a)>>= _) _ _ s;refine Fl (wpAny_seqItems gt dt ?_);simp only[Gg,hx];refine Fl (wpAny_setField gi di (by simp) (Fo ⟨x,rfl,Fo (q _ ?_ (Gu ..))⟩));refine⟨_,GF _ gi (Obj.isFreed_of_fields (Obj.data_mapFields di _)),(Obj.cls_mapFields ..).trans ci,?_⟩;rw[Obj.data_mapFields di];simp[rawInt]
theorem Bg{Q:Value->Shared->Prop}(hh:A.handled=none)(st:s.heap.IsTupleIter it a i)(g:s.heap.IsTuple a its)(hx:its[i]?=none)
  (q:∀h' e,Heap.ExtBut it s.heap h'->(∃o,h'.get? e=some o/\o.cls=.type "StopIteration")->E (.ref e) {s with heap:=h'}):wpAny (model P w) A (Builtin.SmallTypes.nextOf (.ref it)) Q E s:=by
 obtain⟨oi,gi,ci,di⟩:=id st;obtain⟨ot,gt,_,n,dt⟩:=g;unfold Builtin.SmallTypes.nextOf;refine Fl (GX (name:=Str.ofString "__next__") st.typeIs F.slot_tuple_iterator_next (GG F.slot_tuple_iterator_next st.typeIs F.entry_tuple_iterator_next ?_ (F.args_tuple_iterator_next_1 _)));show wpAny _ _ (field (.ref it) 0>>= _) _ _ s;refine Fl (wpAny_field gi di (x:=.ref a) rfl ?_);show wpAny _ _ (if(Value.ref a==Value.none)=true then _ else _) _ _ s;rw[FA (show ¬((Value.ref a==Value.none)=true)from FP)];show wpAny _ _ (field (.ref it) 1>>= _) _ _ s;refine Fl (wpAny_field gi di (x:=.int i 0) rfl ?_);show wpAny _ _ (seqItems? (.ref a)>>= _) _ _ s;refine Fl (wpAny_seqItems gt dt ?_);simp only[Gg,hx]
 first
  |refine Fl (wpAny_rule (Fl (wpAny_setField gi di (by simp) (Fl (wpAny_letGo ?_)))))
  |refine Fl (wpAny_rule (Fl (wpAny_setField gi di (by simp) ?_)))
  |refine Fl (wpAny_setField gi di (by simp) ?_)
 show wpAny _ _ (newExc (.type "StopIteration") []>>= _) _ _ _;refine Fl ?_;simp only[newExc,newTuple];refine Fl (Gp ?_ (by size_fits));refine Fl (m:=firstArgMember _ _) (wpAny_of_eq (a:=Value.none) (by first|rfl|(simp only[firstArgMember];rfl)) (Gp ?_ (by size_fits)));simp only[raiseNew];refine Fl (wpAny_handled ?_)
 first|rw[show A.in1.handled=none from hh]|rw[hh]
 refine Fl (Fo (wpAny_throw ?_));exact q _ _ (((Gu ..).extBut.push _).push _) ⟨_,FT _ rfl,rfl⟩
theorem zR(hh:A.handled=none)(ne:a≠it):Draws P w A it [it,a] its.size (fun i x=>its[i]?=some x) (fun i h=>h.IsTupleIter it a i/\h.IsTuple a its) where
 live:=fun i h st=>by obtain⟨⟨o,e,_⟩,_⟩:=st;exact⟨o,e⟩
 frame:=fun i h h' st k=>⟨st.1.at fun o e=>k it (by simp) o e,by
  obtain⟨o,e,r⟩:=st.2
  exact⟨o,k a (by simp) o e,r⟩⟩
 item:=fun i s Q E hi st q=>CO st.1 st.2 (Array.getElem?_eq_getElem hi) fun h' st' sb=>q _ h' s.toks (Array.getElem?_eq_getElem hi) ⟨st',by
  obtain⟨o,e,r⟩:=st.2
  exact⟨o,(sb.2 a ne).trans e,r⟩⟩ sb
 done:=fun s Q E st q=>Bg hh st.1 st.2 (Array.getElem?_eq_none (Fv _)) q
end
section
variable{X:Cx}{pins:List (Addr×Obj)}{σ:St}{H:Hp}{s:Shared}{h':Heap}
theorem AB{t':Nat}{e it T:Addr}{xs:List V}(I:Inv X pins σ H s)(k:∀b o,b≠e->b≠it->s.heap.get? b=some o->h'.get? b=some o)(he:kF X pins H e)(hi:kF X pins H it)
  (hT:s.heap.objs.size<=T) (new:bR X.prog X.w (upd H T (.tup xs)) h' T (.tup xs)):Inv X pins σ (upd H T (.tup xs)) {s with heap:=h',toks:=t'}:=by
 obtain⟨e0,e1,e2,e3,e4,e5⟩:=he;obtain⟨i0,i1,i2,i3,i4,i5⟩:=hi;have hn:H T=none:=I.hok.fresh hT;have nt:∀b o,s.heap.get? b=some o->b≠T:=fun b o g z=>absurd (FE (FI g) (z▸hT)) (G3 _);have ue:∀b u,H b=some u->upd H T (.tup xs) b=some u:=fun b u g=>by rw[au (cZ g hn)];exact g
 have k2:∀b o,b∉[e,it]->s.heap.get? b=some o->h'.get? b=some o:=fun b o hb g=>k b o (fun z=>hb (by simp[z])) (fun z=>hb (by simp[z])) g;refine I.step (g':=s.gens) (d':=s.drawn) (ch:=[e,it]) (fun b hb=>?_) (fun b o _ _ hc g _=>k2 b o hc g) (fun b o _ _ hc g _=>⟨o.slots,k2 b o hc g⟩) (fun b o _ g n=>by rw[au (nt b o g)];exact n)
  (fun b o hc g=>⟨o,k2 b o hc g⟩) (fun b ys g=>ue b _ g) (fun b o u g=>ue b _ g) (fun b ps g=>⟨#[],by rw[ue b _ g];simp⟩) (fun m hm=>?_) (fun b u g=>?_) I.bare
 ·have z:b=e\/b=it:=by simpa using hb
  rcases z with rfl|rfl
  ·exact⟨e3,e1,e4,e5⟩
  ·exact⟨i3,i1,i4,i5⟩
 ·obtain⟨o,es,ep,ho,r⟩:=hm;exact⟨o,es,ep,k _ o (GR e1) (GR i1) ho,r⟩
 ·by_cases hb:b=T
  ·subst hb;rw[ae]at g;cases g;exact new
  ·rw[au hb]at g;refine(I.hok b u g).stay (fun c v hc q=>?_) (fun c q=>ue c _ q) fun c ys q=>ue c _ q;have z:∃u',H c=some u':=by
    rcases hc with z|z
    ·exact⟨u,z▸g⟩
    ·exact⟨_,z⟩
   obtain⟨u',z⟩:=z;exact k c v (fun y=>by rw[y,e0]at z;cases z) (fun y=>by rw[y,i0]at z;cases z) q
end
noncomputable def Ite(K:Frag)(a:Addr):It:=
 ⟨fun i H=>∃xs x,SqT K H a xs/\xs[i]?=some x,fun i H x H'=>∃T v,H T=none/\x=.ref T/\H'=upd H T (.tup [.int (i:Nat),v])/\∀xs,SqT K H a xs->xs[i]?=some v,fun i H=>∃xs,SqT K H a xs/\xs.length=i⟩
theorem xm{P:Program}{w:World}{K:Frag}{elts:List Expr}{x1:Nat}{pos:Pos}(a e it:Addr)(ne:e≠it):Turn P w K (.Tuple elts x1 pos) (Ite K a) [e,it] e (fun i h=>(∃old,IsEnum h e it (i:Nat) old)/\h.IsTupleIter it a i) where
 mem:=by simp
 obj:=fun i h st b hb=>by
  have z:b=e\/b=it:=by simpa using hb
  obtain⟨⟨old,st1⟩,o,st2,c,d⟩:=st;rcases z with rfl|rfl
  ·exact⟨_,st1,fun v z=>by cases z⟩
  ·exact⟨o,st2,fun v z=>by rw[d]at z;cases z⟩
 keep:=fun i h h' st k=>by obtain⟨⟨old,st1⟩,st2⟩:=st;exact⟨⟨old,k e (by simp) _ st1⟩,st2.at fun o g=>k it (by simp) o g⟩
 item:=by
  intro X hP hw hK hc i pins s σ H E I hf st hg;subst hP hw hK;obtain⟨xs,x,hq,hx⟩:=hg;obtain⟨its,rv,p,hz⟩:=I.tuple hq;obtain⟨u,hu,ru⟩:=rv.get hx;obtain⟨⟨old,st1⟩,st2⟩:=st;have fe:=hf e (by simp);have fi:=hf it (by simp);have hai:a≠it:=fun z=>by obtain⟨o,g1,c1,_⟩:=st2;obtain⟨o',g2,c2,_⟩:=p;rw[z,g1]at g2;cases g2;rw[c1]at c2;exact absurd c2 (by decide)
  have hae:a≠e:=fun z=>by obtain⟨o',g2,c2,_⟩:=p;rw[z,st1]at g2;cases g2;have c3:Value.type "enumerate"=Value.type "tuple":=c2;exact absurd c3 (by decide)
  have lt:i<its.toArray.size:=by have:=(FD.mp hu).1;simpa using this
  have D:Draws X.prog X.w X.A.in1 it [it,a] its.toArray.size (fun i x=>its.toArray[i]?=some x) (fun i h=>h.IsTupleIter it a i/\h.IsTuple a its.toArray):=zR (I.ok.hd hc) hai;refine wpAny_pyNext_enum_itemD D st1 ⟨st2,p⟩ lt ne (by simp[ne,GR hae]) fun y h' tk hy o1 o2 o3 o4 k=>?_;have ey:y=u:=by have z:its.toArray[i]?=some u:=(by simpa using hu);rw[z]at hy;exact(F0 hy).symm
  subst ey;refine⟨_,rfl,?_⟩;refine wpAny_letOwnedTupleGo_enum (s:={s with heap:=h',toks:=tk+1}) o1 fun h2 st1' sb=>?_;have nT:s.heap.objs.size≠e:=Nat.ne_of_gt (FI st1);have kk:∀b o,b≠e->b≠it->s.heap.get? b=some o->h2.get? b=some o:=fun b o q1 q2 q=>(sb.2 b q1).trans (k b o q1 q2 q);refine⟨.ref s.heap.objs.size,upd H s.heap.objs.size (.tup [.int (i:Nat),x]),(show Inv X pins σ (upd H s.heap.objs.size (.tup [.int (i:Nat),x])) {s with heap:=h2,toks:=tk+1}from AB (s:=s) (h':=h2) (t':=tk+1) I kk fe fi (Fv _) ?_),rfl,⟨_,x,I.hok.fresh (Fv _),rfl,rfl,fun ys hy=>by rw[I.tuple_inj hy hq];exact hx⟩,⟨⟨_,by simpa using st1'⟩,?_⟩,fun b hb=>?_⟩
  ·exact⟨by show 2<=sizeLine;decide,[.int i tk,y],.cons ⟨tk,rfl⟩ (.cons ru .nil),⟨_,(sb.2 _ nT).trans o3,rfl,_,rfl⟩⟩
  ·exact o2.1.at fun o g=>(sb.2 it (GR ne)).trans g
  ·have nb:b≠s.heap.objs.size:=by
    have z:b=e\/b=it:=(by simpa using hb);rcases z with rfl|rfl
    ·exact F4 (FI st1)
    ·obtain⟨o,g,_⟩:=st2;exact F4 (FI g)
   rw[au nb];exact(hf b hb).1
 done:=by
  intro X hP hw hK hc i pins s σ H E I hf st hg;subst hP hw hK;obtain⟨xs,hq,hx⟩:=hg;obtain⟨its,rv,p,hz⟩:=I.tuple hq;obtain⟨⟨old,st1⟩,st2⟩:=st;obtain⟨f0,f1,f2,f3,f4,f5⟩:=hf it (by simp);have hai:a≠it:=fun z=>by obtain⟨o,g1,c1,_⟩:=st2;obtain⟨o',g2,c2,_⟩:=p;rw[z,g1]at g2;cases g2;rw[c1]at c2;exact absurd c2 (by decide)
  have D:Draws X.prog X.w X.A.in1 it [it,a] its.toArray.size (fun i x=>its.toArray[i]?=some x) (fun i h=>h.IsTupleIter it a i/\h.IsTuple a its.toArray):=zR (I.ok.hd hc) hai;have el:i=its.toArray.size:=by
   have:=rv.length;simp
   lia
  exact wpAny_pyNext_enum_endD D st1 ⟨el▸st2,p⟩ fun h' eb=>⟨rfl,I.turned (t':=s.toks) (fun b o hb g=>eb b o hb g) f0 f1 f3 f4 f5⟩
 self:=fun A i s Q E st h=>by obtain⟨⟨old,st1⟩,_⟩:=st;exact wpAny_pyIter_enum st1 h
open AutoSeq1 (wpAny_loadPart')in
theorem xQ(l:Addr)(items:Array Value)(n:Nat)(dct:Option Addr)(sl:Array (Option Value)):Meets (Builtin.«enumerate.__new__» ⟨[.type "enumerate",.ref l],[]⟩) (fun _ R s=>s.heap.get? l=some {cls:=.type "tuple",dict:=dct,data:=.seq items n,slots:=sl}/\
  R (.ok (.ret (.ref (s.heap.push {cls:=.type "tuple_iterator",data:=.fields #[.ref l,.int 0 0]}).objs.size))) {s with heap:=(s.heap.push {cls:=.type "tuple_iterator",data:=.fields #[.ref l,.int 0 0]}).push {cls:=.type "enumerate",data:=.fields #[.none,.bool false,.ref s.heap.objs.size,rawInt 0,.none,.none]}}):=
 .of_wp fun prog w A R s h=>by
  obtain⟨hp,g,d,tk,os⟩:=s
  obtain⟨hl,h⟩:=h
  have sb:=sub_enumerate
  have hT:Heap.IsTuple (Shared.heap ⟨hp,g,d,tk,os⟩) l items:=⟨_,hl,rfl,n,rfl⟩
  wp_walk using wpAny_loadPart' hl
  refine wpAny_stack_any fun st=>Fo ?_
  split
  ·rename_i c _ _ _ _ _
   cases (c==Value.type "enumerate")<;>(wp_walk using wpAny_loadPart' hl,wpAny_pyIter_tuple hT;exact⟨_,rfl,h⟩)
  ·wp_walk using wpAny_loadPart' hl,wpAny_pyIter_tuple hT
   exact⟨_,rfl,h⟩
section
variable{X:Cx}{elts:List Expr}{x1:Nat}{tp:Pos}
def E9(K:Frag)(ta:TA):TI:=fun σ H R=>ta σ H fun vs H1=>∃a,vs=[.ref a]/\(∃xs,SqT K H1 a xs)/\R (Ite K a) H1
theorem A4{l:Expr}{ta:TA}{p pos:Pos}(hg:Gl X "enumerate")(hm:X.mg "enumerate"=none)(ha:PA X [l] ta)(hs:starEach [l] X.env=[(false,eval l X.env)]:=by rfl):PI X (.Tuple elts x1 tp) (.Call (.Name "enumerate" p) [l] [] pos) (E9 X.K ta):=by
 intro pins s σ H R I h;refine Call_ (mM I hg hm boot_enumerate (PyProof.Rows.callWith_type1 (thn (ha pos pins s σ H _ I h) fun us s1 hPz=>?_) hs rfl));obtain⟨vs,H1,I1,r1,q1⟩:=hPz;obtain⟨a,e,⟨xs,hq⟩,q⟩:=q1;subst e;cases r1 with
 |cons r rr=>
  cases rr;cases r;obtain⟨its,rv,pt,hz⟩:=I1.tuple hq;obtain⟨⟨c,dct,dt,sl⟩,hl,hc,n,hd⟩:=id pt;replace hc:c=.type "tuple":=hc;replace hd:dt=.seq its.toArray n:=hd;subst hc hd;refine callType_new F.called_enumerate (by decide) (F.typeCall_enumerate_1 _) (F.newCall_enumerate_1 _) (fun obj=>F.args_object_init_2 obj _) F.entry_enumerate_new (xQ a its.toArray n dct sl) ⟨hl,?_⟩;have hz1:(s1.heap.push {cls:=.type "tuple_iterator",data:=.fields #[.ref a,.int 0 0]}).objs.size=s1.heap.objs.size+1:=Heap.size_push ..;have he:IsEnum ((s1.heap.push {cls:=.type "tuple_iterator",data:=.fields #[.ref a,.int 0 0]}).push {cls:=.type "enumerate",data:=.fields #[.none,.bool false,.ref s1.heap.objs.size,rawInt 0,.none,.none]}) (s1.heap.objs.size+1) s1.heap.objs.size 0 .none:=by have:=FT (s1.heap.push {cls:=.type "tuple_iterator",data:=.fields #[.ref a,.int 0 0]}) (o:={cls:=.type "enumerate",data:=.fields #[.none,.bool false,.ref s1.heap.objs.size,rawInt 0,.none,.none]}) rfl;rw[hz1]at this;exact this
  show _/\_;rw[hz1];refine⟨⟨_,he,rfl⟩,?_⟩;refine wpAny_pyIter_enum he ?_;refine⟨s1.heap.objs.size+1,[s1.heap.objs.size+1,s1.heap.objs.size],_,_,H1,rfl,I1.kept (t':=s1.toks) (fun b o g=>Fn _ (Fn _ g)),xm a _ _ (Nat.succ_ne_self _),⟨⟨_,he⟩,⟨_,Fn _ (FT _ rfl),rfl,rfl⟩⟩,fun b hb=>?_,q⟩;have z:b=s1.heap.objs.size+1\/b=s1.heap.objs.size:=by simpa using hb
  rcases z with rfl|rfl
  ·exact I1.fpOk (Nat.le_succ _) (I1.hok.fresh (Nat.le_succ _))
  ·exact I1.fpOk (Fv _) (I1.hok.fresh (Fv _))
end
section
variable{prog:Program}{w:World}{A:Around}{E:Value->Shared->Prop}{s:Shared}
open HT in
theorem vz{t sl:Addr}{items:Array Value}{vl vu:Value}{lo hi:Option Int}{Q:Value->Shared->Prop}(ht:IsTup s.heap t items)(hs:s.heap.IsSliceOf sl vl vu .none)(pl:IsPart vl lo)(pu:IsPart vu hi)
  (hw:sIx items.size 0 lo=0/\sIx items.size items.size hi=items.size) (h:Q (.ref t) s):wpAny (model prog w) A (getItem (.ref t) (.ref sl)) Q E s:=by
 obtain⟨os,hos,hcs,hds⟩:=id hs;have hTs:s.TypeIs (.ref sl) "slice":=⟨os,hos,hcs⟩;unfold getItem
 try with_reducible refine Gx ?_
 first|refine Fl (Fo ?_)|skip
 refine Fl (wpAny_sequenceKey ht.typeIs (by decide) ?_);refine Fl (GX (name:=Str.ofString "__getitem__") ht.typeIs GH (GG GH ht.typeIs entry_tuple_getitem ?_ (args_tuple_getitem _ _)));show wpAny _ _ (Builtin.Tuple.tupleItemsOf (.ref t)>>= _) _ _ s;refine Fl (tupleItemsOf_ ht ?_);refine Fl (wpAny_typeOf hTs ?_);rw[FH (by decide)];refine Fl (ie hs pl pu ?_);have yes:((((sIx items.size 0 lo:Nat):Int)==0&&(1:Int)==1&&(sIx items.size items.size hi-sIx items.size 0 lo)==items.size)=true):=by rw[hw.1,hw.2];simp
 show wpAny _ _ (if(((sIx items.size 0 lo:Nat):Int)==0&&(1:Int)==1&&(sIx items.size items.size hi-sIx items.size 0 lo)==items.size)=true then _ else _) _ _ s;rw[FH yes];have ex:∀{B:Around}{R:Bool->Shared->Prop}{E':Value->Shared->Prop},R true s->wpAny (model prog w) B (Builtin.Tuple.tupleIsExact (.ref t)) R E' s:=by
  intro B R E' q;obtain⟨o,ho,hc,n,hd⟩:=id ht;unfold Builtin.Tuple.tupleIsExact
  first
   |refine Fl (wpAny_typeOf ht.typeIs (Fo ?_))
   |refine Fl (wpAny_load ho (Fo ?_))
  first|exact q|(rw[hc];exact q)|simpa using q
 first
  |exact Fl (ex (Fl (wpAny_rule (Fo ⟨_,rfl,Fo h⟩))))
  |exact Fl (ex (Fl (wpAny_rule (Fl (Fo (Fo ⟨_,rfl,Fo h⟩))))))
  |(refine Fl (ex ?_);simp only[if_true];refine Fl (wpAny_rule ?_);first|exact Fo ⟨_,rfl,Fo h⟩|exact Fl (Fo (Fo ⟨_,rfl,Fo h⟩)))
end
section
variable{X:Cx}
noncomputable def Eb(K:Frag):R2:=fun x y H Q=>∃a b xs ys,x=.ref a/\y=.ref b/\SqT K H a xs/\SqT K H b ys/\xs.length+ys.length<=sizeLine/\∀r H',ak H H'->SqT K H' r (xs++ys)->Q (.ref r) H'
theorem fA:OpR X (binaryOp .Add) (Eb X.K):=by
 intro pins s σ H x y v u Q I rx ry h;obtain⟨a,b,xs,ys,rfl,rfl,ha,hb,hz,q⟩:=h;by_cases hx:xs=[]
 ·cases rx;cases ry;obtain⟨its,r1,p1,_⟩:=I.tuple ha;obtain⟨its2,r2,p2,_⟩:=I.tuple hb;have e1:its=[]:=r1.nil_iff.mpr hx;obtain⟨⟨c1,d1,t1,l1⟩,o1,k1,n1,z1⟩:=id p1;obtain⟨⟨c2,d2,t2,l2⟩,o2,k2,n2,z2⟩:=id p2;simp only at k1 z1 k2 z2;subst k1 z1 k2 z2;exact concat_meets ⟨_,o1,rfl⟩ ⟨_,o2,rfl⟩ noFill_tuple_add seq_tuple_add PySem.F.slot_tuple_add PySem.F.entry_tuple_add (PySem.F.args_tuple_add_2 _ _) (tuple_addW0 a b its.toArray its2.toArray n1 n2 d1 d2 l1 l2 (by simp[e1]))
   ⟨o1,o2,.ref b,H,I,rfl,q b H (fun _ _ e=>e) (by rw[hx];exact hb)⟩
 ·exact Bc pins s σ H _ _ v u Q I rx ry ⟨a,b,xs,ys,rfl,rfl,ha,hb,hx,hz,fun z=>q a H (fun _ _ e=>e) (by rw[z,F3];exact ha),fun _ p hp=>q p _ (ak.upd hp) (SqT.of ae)⟩
def EY(K:Frag):V->Option Int->Option Int->Hp->VK->Prop:=fun x lo hi H Q=>∃a xs,x=.ref a/\SqT K H a xs/\∀r H',ak H H'->SqT K H' r (gO xs lo hi)->Q (.ref r) H'
theorem iA:SlR X (EY X.K):=by
 intro pins s σ H x v vl vu lo hi sl Q I rx hs pl pu h;obtain⟨a,xs,rfl,hx,q⟩:=h;by_cases hw:HT.sIx xs.length 0 lo=0/\HT.sIx xs.length xs.length hi=xs.length
 ·cases rx;obtain⟨its,r,ht,hz⟩:=I.tuple hx;have hlen:its.toArray.size=xs.length:=by rw[Fu];exact r.length.symm
  have e:gO xs lo hi=xs:=by unfold gO;rw[hw.1,hw.2];simp
  exact⟨"tuple",_,GH.lookup,ht.typeIs,vz ht hs pl pu (by rw[hlen];exact hw) ⟨.ref a,H,I,rfl,q a H (fun _ _ e=>e) (by rw[e];exact hx)⟩⟩
 ·exact Cu pins s σ H _ v vl vu lo hi sl Q I rx hs pl pu ⟨a,xs,rfl,hx,hw,fun p hp=>q p _ (ak.upd hp) (SqT.of ae)⟩
theorem zM{K:Frag}{a:Addr}{xs:List V}{g:TG}{tb:TS}{D:Ends}{σ:St}{H:Hp}(Pv:Nat->St->Hp->Prop)(h0:Pv 0 σ H)(hl:∀i σ H,i<=xs.length->Pv i σ H->SqT K H a xs)
  (hs:∀i y σ H T,xs[i]?=some y->Pv i σ H->H T=none->g (.ref T) σ (upd H T (.tup [.int (i:Nat),y])) fun σ2 H2=>tb {D with nx:=Pv (i+1),ct:=Pv (i+1),bk:=D.nx} σ2 H2) (hd:∀σ H,Pv xs.length σ H->D.nx σ H):
  ∃W:Nat->Nat->St->Hp->Prop,(∃m,W 0 m σ H)/\∀i m σ H,W i m σ H->
   ((Ite K a).stop i H/\D.nx σ H)\/((Ite K a).go i H/\∃N:St->Hp->Prop,(∀σ' H',N σ' H'->∃m',m'<m/\W (i+1) m' σ' H')/\∀x H',(Ite K a).yld i H x H'->g x σ H' fun σ2 H2=>tb {D with nx:=N,ct:=N,bk:=D.nx} σ2 H2):=by
 refine⟨fun i m σ H=>m=xs.length-i/\i<=xs.length/\Pv i σ H,⟨xs.length,by simp,F1 _,h0⟩,?_⟩;rintro i m σ H ⟨rfl,hi,p⟩;have q:=hl i σ H hi p;by_cases hlt:i<xs.length
 ·refine .inr ⟨⟨xs,xs[i],q,by simp[hlt]⟩,Pv (i+1),fun σ' H' p'=>⟨xs.length-(i+1),by omega,rfl,hlt,p'⟩,fun x H' y=>?_⟩;obtain⟨T,v,hT,rfl,rfl,y⟩:=y;exact hs i v σ H T (y xs q) p hT
 ·have e:i=xs.length:=by omega
  exact .inl ⟨⟨xs,q,e.symm⟩,hd σ H (e▸p)⟩
end
end L2
namespace L2
open PySem PySem.Spec PyProof.Rows LM
noncomputable def wo(n:Int)(c:Col):Col:=c.filter fun r=>decide (av r≠n)
noncomputable def mX(n:Int)(c:Col):Bool:=c.any fun r=>decide (av r=n)
theorem veq{a b:Int}:decide (V.int a=V.int b)=true<->a=b:=⟨fun h=>V.int.inj (F7 h),fun h=>FQ (congrArg V.int h)⟩
theorem vne{a b:Int}:(!decide (V.int a=V.int b))=true<->a≠b:=by rw[Bool.not_eq_true',decide_eq_false_iff_not];exact⟨fun h e=>h (congrArg V.int e),fun h e=>h (V.int.inj e)⟩
def ff(n:Int)(c:Col)(i:Nat):Prop:=∃r,c[i]?=some r/\av r=n/\∀j r',j<i->c[j]?=some r'->av r'≠n
theorem jo{c:Col}(nd:(c.map av).Nodup){i:Nat}{r:List Key}(h:c[i]?=some r):c=c.take i++r::c.drop (i+1)/\(∀r'∈c.take i,av r'≠av r)/\∀r'∈c.drop (i+1),av r'≠av r:=by
 obtain⟨hi,e⟩:=FD.mp h;have sp:c=c.take i++r::c.drop (i+1):=by rw[<-e,List.getElem_cons_drop,Gs]
 refine⟨sp,?_⟩;rw[sp,FN,FG]at nd;obtain⟨h1,h2,h3⟩:=GY.mp nd;refine⟨fun r' hr' z=>?_,fun r' hr' z=>?_⟩
 ·exact h3 _ (Fp.mpr ⟨r',hr',rfl⟩) _ (Fw ..) z
 ·exact(Gv.mp h2).1 (Fp.mpr ⟨r',hr',z⟩)
theorem vY{n:Int}(c:Col)(r:List Key):wo n (c++[r])=wo n c++(if av r=n then[]else[r]):=by
 unfold wo;rw[Gh];congr 1;by_cases h:av r=n
 ·rw[FH h];simp[h]
 ·rw[FA h];simp[h]
theorem Cf(n:Int)(c:Col):(wo n c).length<=c.length:=GV _ _
theorem uA{g:Nat->Option Col}{R:cf}(h:bj g R)(f:Col->Col):xg (fun i=>(g i).map f) (R.map fun p=>(p.1,f p.2)):=by
 refine⟨fun p hp=>?_,fun p hp i hi b=>?_,fun i c hi e=>?_⟩
 ·obtain⟨q,hq,rfl⟩:=Fp.mp hp;exact(h.ok q hq).1
 ·obtain⟨q,hq,rfl⟩:=Fp.mp hp;show(g i).map f=some (f q.2);rw[((h.ok q hq).2.2 i hi).mp b];rfl
 ·have e':(g i).map f=some c:=e;cases w:g i with
  |none=>rw[w]at e';cases e'
  |some c'=>rw[w]at e';cases e';obtain⟨q,hq,e1,e2⟩:=h.grd.has i c' hi w;exact⟨_,Fp.mpr ⟨q,hq,rfl⟩,congrArg f e1,e2⟩
theorem bJ.bur{K:Frag}{H:Hp}{b:Addr}{c:Col}(h:bJ K H b c):∃xs,SqT K H b xs/\Paired (bS K H) xs c:=by
 obtain⟨lay,xs,hx,pr⟩:=h;refine⟨xs,hx,?_⟩;clear hx
 induction pr with
 |nil=>exact .nil
 |cons a _ ih=>obtain⟨q,rfl,h2⟩:=a;exact .cons ⟨lay _ (Fw ..),q,rfl,h2⟩ (ih fun r hr=>lay r (Ft _ hr))
def GoodC(c:Col):Prop:=(∀r∈c,du r)/\(c.map av).Nodup/\c.length<=20
end L2
namespace L2
open PySem PySem.Spec PyProof.Rows
noncomputable def dX(n h:Int)(c:Col):Col:=if mX h c=true then((c.takeWhile fun r=>decide (av r≠h)).dropWhile fun r=>decide (av r≠n))else[]
theorem fu{n:Int}{c:Col}:mX n c=true<->∃r∈c,av r=n:=by unfold mX;rw[List.any_eq_true];exact⟨fun⟨r,h,e⟩=>⟨r,h,F7 e⟩,fun⟨r,h,e⟩=>⟨r,h,FQ e⟩⟩
theorem vQ{n:Int}{c:Col}(h:∀r∈c,av r≠n):mX n c=false:=by
 cases e:mX n c with
 |false=>rfl
 |true=>obtain⟨r,hr,e⟩:=fu.mp e;exact absurd e (h r hr)
theorem ff.any{n:Int}{c:Col}{i:Nat}(h:ff n c i):mX n c=true:=by obtain⟨r,hr,e,_⟩:=h;exact fu.mpr ⟨r,Fs hr,e⟩
theorem vI{n:Int}:∀{c:Col},(∀r∈c,av r≠n)->(c.dropWhile fun r=>decide (av r≠n))=[]
 | [],_=>rfl
 |r::c,h=>by rw[List.dropWhile_cons,FH (FQ (h r (Fw ..))),vI fun r' h'=>h r' (Ft _ h')]
theorem ff.before{n:Int}{c:Col}{i:Nat}(h:ff n c i):∀r∈c.take i,av r≠n:=fun r hr=>by obtain⟨_,_,_,hn⟩:=h;obtain⟨j,hj,e⟩:=G0 hr;rw[FK]at hj;rw[List.getElem_take]at e;exact hn j r (by lia) (by rw[Fy (by lia),e])
theorem ff.split{n:Int}{c:Col}{i:Nat}(h:ff n c i):∃r,av r=n/\c[i]?=some r/\c=c.take i++r::c.drop (i+1):=by obtain⟨r,hr,e,_⟩:=h;obtain⟨hi,e'⟩:=FD.mp hr;exact⟨r,e,hr,by rw[<-e',List.getElem_cons_drop,Gs]⟩
theorem ff.lt{n:Int}{c:Col}{i:Nat}(h:ff n c i):i<c.length:=by obtain⟨r,hr,_⟩:=h;exact(FD.mp hr).1
theorem tw_at{n:Int}{c:Col}{i:Nat}(h:ff n c i):(c.takeWhile fun r=>decide (av r≠n))=c.take i:=by
 obtain⟨r,e,_,sp⟩:=h.split
 conv=>lhs;rw[sp]
 rw[List.takeWhile_append_of_pos (fun a ha=>FQ (h.before a ha)),List.takeWhile_cons,FA (by simp[e]),F3]
theorem Et{n:Int}{c:Col}{i:Nat}(h:ff n c i):(c.dropWhile fun r=>decide (av r≠n))=c.drop i:=by
 obtain⟨r,e,hr0,sp⟩:=h.split
 conv=>lhs;rw[sp]
 rw[List.dropWhile_append_of_pos (fun a ha=>FQ (h.before a ha)),List.dropWhile_cons,FA (by simp[e])];obtain⟨hl,e'⟩:=FD.mp hr0;rw[<-e',List.getElem_cons_drop]
theorem jk{n h:Int}{c:Col}{i j:Nat}(hi:ff n c i)(hj:ff h c j):dX n h c=(c.drop i).take (j-i):=by
 unfold dX;rw[FH hj.any,tw_at hj];have jl:=hj.lt;by_cases lt:i<j
 ·have f:ff n (c.take j) i:=by
   obtain⟨r,hr,e,hn⟩:=hi;refine⟨r,?_,e,fun k r' hk hr'=>?_⟩
   ·rw[List.getElem?_take_of_lt lt];exact hr
   ·rw[List.getElem?_take_of_lt (by lia)]at hr';exact hn k r' hk hr'
  rw[Et f,List.drop_take]
 ·rw[show j-i=0 by lia,List.take_zero];refine vI fun r hr=>?_;obtain⟨_,_,_,hn⟩:=hi;obtain⟨k,hk,e⟩:=G0 hr;rw[FK]at hk;rw[List.getElem_take]at e;exact hn k r (by lia) (by rw[Fy (by lia),e])
theorem lj{n h:Int}{c:Col}(hn:∀r∈c,av r≠n):dX n h c=[]:=by
 unfold dX;split
 ·exact vI fun r hr=>hn r ((List.takeWhile_sublist _).subset hr)
 ·rfl
theorem nX{n h:Int}{c:Col}(hn:∀r∈c,av r≠h):dX n h c=[]:=by unfold dX;rw[vQ hn];rfl
theorem iG{n h:Int}{c:Col}{r:List Key}(hr:r∈dX n h c):r∈c:=by
 unfold dX at hr;split at hr
 ·exact(List.takeWhile_sublist _).subset ((List.dropWhile_sublist _).subset hr)
 ·cases hr
noncomputable def dI(n h:Int)(c:Col):Col:=if dX n h c=[]then c else c.flatMap fun r=>(if av r=n then c.filter (fun x=>decide (av x=h))else[])++(if av r=h then[]else[r])
theorem iJ{n h:Int}{X:Col}:∀{l:Col},(∀r∈l,av r≠n/\av r≠h)->(l.flatMap fun r=>(if av r=n then X else[])++(if av r=h then[]else[r]))=l
 | [],_=>rfl
 |r::l,hl=>by obtain⟨h1,h2⟩:=hl r (Fw ..);rw[List.flatMap_cons,FA h1,FA h2,iJ fun r' h'=>hl r' (Ft _ h')];rfl
theorem vG{h:Int}{c:Col}(nd:(c.map av).Nodup){j:Nat}(hj:ff h c j){r:List Key}(hr:c[j]?=some r):(c.filter fun x=>decide (av x=h))=[r]:=by
 obtain⟨r',e,hr',sp⟩:=hj.split;rw[hr]at hr';cases hr';obtain⟨_,h1,h2⟩:=jo nd hr;rw[e]at h1 h2
 conv=>lhs;rw[sp]
 rw[Gh,List.filter_cons_of_pos (by simp[e]),List.filter_eq_nil_iff.mpr (fun x hx=>by simpa using h1 x hx),List.filter_eq_nil_iff.mpr (fun x hx=>by simpa using h2 x hx)];rfl
theorem uN{n h:Int}{c:Col}(nd:(c.map av).Nodup){i j:Nat}(hi:ff n c i)(hj:ff h c j){r:List Key}(hr:c[j]?=some r)(ne:dX n h c≠[]):dI n h c=c.take i++[r]++dX n h c++c.drop (j+1):=by
 have lt:i<j:=by refine Gn fun z=>ne ?_;rw[jk hi hj,show j-i=0 by lia,List.take_zero]
 have jl:=hj.lt;unfold dI;rw[FA ne,vG nd hj hr,jk hi hj];obtain⟨rn,en,hrn,sp⟩:=hi.split;obtain⟨r',eh,hr',sp2⟩:=hj.split;rw[hr]at hr';cases hr';obtain⟨_,n1,n2⟩:=jo nd hrn;obtain⟨_,m1,m2⟩:=jo nd hr;rw[en]at n1 n2;rw[eh]at m1 m2;have nh:n≠h:=fun z=>by
  have:=hj.before rn (by
   rw[List.mem_iff_getElem?]
   exact⟨i,by rw[List.getElem?_take_of_lt lt];exact hrn⟩)
  exact this (en.trans z)
 have mid:c.drop i=rn::(c.drop (i+1)):=by obtain⟨hi',e'⟩:=FD.mp hrn;rw[<-e',List.getElem_cons_drop]
 have split3:c.drop (i+1)=(c.drop (i+1)).take (j-(i+1))++r::c.drop (j+1):=by
  conv=>lhs;rw[<-Gs (j-(i+1)) (c.drop (i+1))]
  congr 1;rw[List.drop_drop,show(i+1)+(j-(i+1))=j by omega];obtain⟨hj',e'⟩:=FD.mp hr;rw[<-e',List.getElem_cons_drop]
 have pm:(c.drop i).take (j-i)=rn::(c.drop (i+1)).take (j-(i+1)):=by rw[mid,show j-i=(j-(i+1))+1 by lia,List.take_succ_cons]
 rw[pm];have cc:c=c.take i++rn::((c.drop (i+1)).take (j-(i+1))++r::c.drop (j+1)):=by rw[<-split3];exact sp
 have o1:∀x∈c.take i,av x≠n/\av x≠h:=fun x hx=>⟨n1 x hx,m1 x (by
  rw[show i=min i j by lia,<-List.take_take]at hx
  exact Gw hx)⟩
 have o2:∀x∈(c.drop (i+1)).take (j-(i+1)),av x≠n/\av x≠h:=fun x hx=>⟨n2 x (Gw hx),m1 x (by
  rw[show j-(i+1)=j-(i+1)from rfl,<-List.drop_take]at hx
  exact List.mem_of_mem_drop hx)⟩
 have o3:∀x∈c.drop (j+1),av x≠n/\av x≠h:=fun x hx=>⟨n2 x (by
  rw[show j+1=(i+1)+(j-i) by lia,<-List.drop_drop]at hx
  exact List.mem_of_mem_drop hx),m2 x hx⟩
 generalize (c.drop (i+1)).take (j-(i+1))=Bm at cc o2 ⊢;generalize c.take i=Am at cc o1 ⊢;generalize c.drop (j+1)=Dm at cc o3 ⊢;rw[cc,List.flatMap_append,List.flatMap_cons,List.flatMap_append,List.flatMap_cons,iJ o1,iJ o2,iJ o3,FH en,FA (fun z=>nh (en.symm.trans z)),FA (fun z=>nh (z.symm.trans eh)),FH eh];simp
section
variable{K:Frag}{H H':Hp}
theorem Az{kvs:List (Key×V)}{k:Key}{v:V}(h:eK kvs k=some v):∃kv∈kvs,kv.1=k:=by
 unfold eK at h;cases e:kvs.find? (fun kv=>decide (kv.1=k))with
 |none=>rw[e]at h;cases h
 |some kv=>exact⟨kv,List.mem_of_find?_eq_some e,by simpa using List.find?_some e⟩
end
end L2
namespace L2
open PySem PyProof.Rows
noncomputable abbrev SM(α:Type):=StateT SortSt Sem α
end L2
namespace LT
open PySem PyProof.Rows L2
class KN where
 kn:Keyed->Int
 isK:Keyed->Prop
 kd:type_of% oneType'
class uL(prog:Program)(w:World)(A:Around)(E:Value->Shared->Prop)(s:Shared)[KN]:Prop where
 lt:∀{st:SortSt}{x y:Keyed}{Q:Option Bool->SortSt->Prop},kindOf st=KN.kd->KN.isK x->KN.isK y->Q (some (decide (KN.kn x<KN.kn y))) st->wpS (model prog w) A E s (lt' x y) Q st
variable[KN]
noncomputable def kn(p:Keyed):Int:=KN.kn p
def IsK(p:Keyed):Prop:=KN.isK p
noncomputable abbrev kd0:type_of% oneType':=KN.kd
noncomputable def K(xs:Array Keyed)(i:Nat):Int:=match xs[i]? with
 |some p=>kn p
 |none=>0
def SortedTo(xs:Array Keyed)(k:Nat):Prop:=∀i j,i<=j->j<k->K xs i<=K xs j
def pL(xs:Array Keyed):Prop:=∀p,p∈xs.toList->IsK p
theorem K_congr{xs ys:Array Keyed}{i j:Nat}(h:xs[i]?=ys[j]?):K xs i=K ys j:=by unfold K;rw[h]
theorem K_bubble{xs:Array Keyed}{src d:Nat}(hs:src<xs.size)(hd:d<=src)(k:Nat):K (bubble xs src d) k=if k=src-d then K xs src else if src-d<k/\k<=src then K xs (k-1)else K xs k:=by
 have e:=getElem?_bubble hs d hd k;split
 ·rename_i h;rw[FH h]at e;exact K_congr e
 ·rename_i h;rw[FA h]at e;split
  ·rename_i h2;rw[FH h2]at e;exact K_congr e
  ·rename_i h2;rw[FA h2]at e;exact K_congr e
theorem K_mirror{xs:Array Keyed}{i j:Nat}(hj:j<=xs.size)(k:Nat):K (mirror xs i j ((j-i) / 2)) k=if i<=k/\k<j then K xs (i+j-1-k)else K xs k:=by
 have e:=getElem?_mirror_all (i:=i) hj k;split
 ·rename_i h;rw[FH h]at e;exact K_congr e
 ·rename_i h;rw[FA h]at e;exact K_congr e
theorem K_mirror_equal{xs:Array Keyed}{i j:Nat}(hj:j<=xs.size)(heq:∀k,i<=k->k<j->K xs k=K xs (j-1))(k:Nat):K (mirror xs i j ((j-i) / 2)) k=K xs k:=by
 rw[K_mirror hj];split
 ·rw[heq _ (by omega) (by omega),heq k (by lia) (by lia)]
 ·rfl
section
variable{prog:Program}{w:World}{A:Around}{E:Value->Shared->Prop}{s:Shared}[uL prog w A E s]
theorem Aw{st:SortSt}{x y:Keyed}{Q:Option Bool->SortSt->Prop}(hk:kindOf st=kd0)(hx:IsK x)(hy:IsK y)(h:Q (some (decide (kn x<kn y))) st):wpS (model prog w) A E s (lt' x y) Q st:=uL.lt hk hx hy h
end
end LT
namespace LT
open PySem PyProof.Rows L2
variable[KN]
noncomputable abbrev setG(z:SortSt)(g:Nat):SortSt:=SortSt.mk' (kindOf z) (arrOf z) (pendingOf z) g (failedOf z)
abbrev So(a:List Keyed):Prop:=a.Pairwise fun x y=>kn x<=kn y
structure SA(a₀:Array Keyed)(z:SortSt)(lo:Nat)(st:SortSt):Prop where
 perm:(arrOf st).Perm a₀
 kind:kindOf st=kd0
 failed:failedOf st=none
 pend:pendingOf st=pendingOf z
 keep:∀k,k<lo->(arrOf st)[k]?=(arrOf z)[k]?
theorem SA.size{a₀:Array Keyed}{z:SortSt}{lo:Nat}{st:SortSt}(h:SA a₀ z lo st):(arrOf st).size=a₀.size:=h.perm.size_eq
theorem SA.at{a₀:Array Keyed}{z:SortSt}{lo:Nat}{st:SortSt}(h:SA a₀ z lo st)(h0:pL a₀){i:Nat}(hi:i<a₀.size):∃p,(arrOf st)[i]?=some p/\IsK p/\kn p=K (arrOf st) i:=by
 have hi':i<(arrOf st).size:=by rw[h.size];exact hi
 have hm:(arrOf st)[i]∈a₀.toList:=(Array.perm_iff_toList_perm.mp h.perm).mem_iff.mp (by simp);have e:(arrOf st)[i]?=some (arrOf st)[i]:=getElem?_pos _ i hi';refine⟨_,e,h0 _ hm,?_⟩;unfold K;rw[e]
def kD(xs:Array Keyed)(lo n:Nat):Prop:=∀i j,i<=j->j<n->K xs (lo+i)<=K xs (lo+j)
def vT(xs:Array Keyed)(lo n:Nat):Prop:=∀i j,i<=j->j<n->K xs (lo+j)<=K xs (lo+i)
theorem SA.mir{a₀:Array Keyed}{z:SortSt}{lo:Nat}{st:SortSt}(h:SA a₀ z lo st){i j d:Nat}(hi:lo<=i)(hj:j<=a₀.size)(hd:2*d<=j-i):SA a₀ z lo (setArr st (mirror (arrOf st) i j d)):=by refine⟨(mirror_perm _ _ _ _).trans h.perm,h.kind,h.failed,h.pend,fun k hk=>?_⟩;show(mirror (arrOf st) i j d)[k]?=_;rw[getElem?_mirror (by rw[h.size];exact hj) d hd,FA (by omega)];exact h.keep k hk
section
variable{prog:Program}{w:World}{A:Around}{E:Value->Shared->Prop}{s:Shared}[uL prog w A E s]{a₀:Array Keyed}{z:SortSt}{lo:Nat}
theorem kH{st:SortSt}{i j:Nat}{Q:Option Bool->SortSt->Prop}(hB:SA a₀ z lo st)(h0:pL a₀)(hi:i<a₀.size)(hj:j<a₀.size)
  (h:Q (some (decide (K (arrOf st) i<K (arrOf st) j))) st):wpS (model prog w) A E s (ltAt' i j) Q st:=by
 obtain⟨p,e1,k1,n1⟩:=hB.at h0 hi;obtain⟨q,e2,k2,n2⟩:=hB.at h0 hj;rw[ltAt'_eq];refine Gd (wpS_get ?_);show wpS _ _ _ _ (do let x <-elem' (arrOf st) i;let y <-elem' (arrOf st) j;lt' x y) Q st;rw[elem'_eq,elem'_eq,e1,e2];refine Gd (GO (Gd (GO ?_)));refine Aw hB.kind k1 k2 ?_;rw[n1,n2];exact h
theorem qV{st:SortSt}{x0 nrem:Nat}{f:Nat->Option (Option Nat)×Nat->SM (ForInStep (Option (Option Nat)×Nat))}{k:Nat->Option Bool->SM (ForInStep (Option (Option Nat)×Nat))}{Q:Option (Option Nat)×Nat->SortSt->Prop}
  (hf:∀x n,f x (none,n)=ltAt' (lo+n) (lo+n-1)>>= k n) (hk:∀n b,k n (some b)=if b=true then pure (ForInStep.done (none,n))else pure (ForInStep.yield (none,n+1)))
  (h0:pL a₀) (hB:SA a₀ z lo st) (hn:lo+nrem<=a₀.size) (h1:1<=x0) (h2:x0<=nrem) (hs:kD (arrOf st) lo x0)
  (h:∀n,x0<=n->n<=nrem->kD (arrOf st) lo n->(n=nrem\/K (arrOf st) (lo+n)<K (arrOf st) (lo+n-1))->Q (none,n) st):wpS (model prog w) A E s (forIn [x0:nrem] (none,x0) f) Q st:=by
 refine wpS_forRange (I:=fun x c st'=>st'=st/\c=(none,x)/\kD (arrOf st) lo x) ?step ?fin ⟨rfl,rfl,hs⟩
 case fin=>rintro c st' ⟨rfl,rfl,hs'⟩;rw[show max x0 nrem=nrem by omega]at hs' ⊢;exact h nrem h2 (Fv _) hs' (.inl rfl)
 case step=>
  rintro x c st' hax hxn ⟨rfl,rfl,hs'⟩;rw[hf];refine Gd (kH hB h0 (by lia) (by lia) ?_);rw[hk];by_cases hless:K (arrOf st') (lo+x)<K (arrOf st') (lo+x-1)
  ·rw[FQ hless,FH rfl];exact GO (h x hax (by lia) hs' (.inr hless))
  ·rw[FY hless,FA (by decide)];refine GO ⟨rfl,rfl,fun i j hij hj=>?_⟩;by_cases hjx:j<x
   ·exact hs' i j hij hjx
   ·have hj':j=x:=(by lia);subst hj';by_cases hi':i=j
    ·subst hi';exact Int.le_refl _
    ·have z1:=hs' i (j-1) (by lia) (by lia);rw[show lo+(j-1)=lo+j-1 by lia]at z1;exact Int.le_trans z1 (Int.not_lt.mp hless)
theorem Ax{st:SortSt}{nrem:Nat}{Q:Option Nat->SortSt->Prop}(h0:pL a₀)(hB:SA a₀ z lo st)(hn:lo+nrem<=a₀.size)(h1:1<=nrem)
  (h:∀m st',SA a₀ z lo st'->1<=m->m<=nrem->kD (arrOf st') lo m->Q (some m) st'):wpS (model prog w) A E s (countRun' lo nrem) Q st:=by
 rw[countRun'_eq];have one:kD (arrOf st) lo 1:=fun i j hij hj=>by
  have e:i=j:=by lia
  subst e;exact Int.le_refl _
 refine Gd (qV (fun _ _=>rfl) (fun _ _=>rfl) h0 hB hn (Fv 1) h1 one fun n n1 n2 sn hor=>?_);dsimp only;by_cases c1:(n==nrem)=true
 ·rw[FH c1];exact GO (h n st hB n1 n2 sn)
 rw[FA c1];have c1':¬n=nrem:=by simpa using c1
 have hlt:=hor.resolve_left c1';have n1r:n+1<=nrem:=by lia
 refine'(fun(tail:∀stD:SortSt,SA a₀ z lo stD->vT (arrOf stD) lo (n+1)->wpS (model prog w) A E s _ Q stD)=>?G) ?T
 case G=>
  by_cases hgt:n>1
  ·rw[FH hgt];refine Gd (kH hB h0 (by lia) (by lia) ?_);dsimp only;by_cases hrose:K (arrOf st) lo<K (arrOf st) (lo+n-1)
   ·rw[FQ hrose,FH rfl];exact GO (h n st hB n1 n2 sn)
   rw[FY hrose,FA (by decide)];have hall:∀k,lo<=k->k<lo+n->K (arrOf st) k=K (arrOf st) (lo+n-1):=fun k g1 g2=>by
    have a1:=sn 0 (k-lo) (by lia) (by lia);have a2:=sn (k-lo) (n-1) (by lia) (by lia);rw[show lo+0=lo by lia,show lo+(k-lo)=k by lia]at a1;rw[show lo+(k-lo)=k by omega,show lo+(n-1)=lo+n-1 by lia]at a2
    lia
   refine Gd (wpS_reverse ?_);have hD:=hB.mir (i:=lo) (j:=lo+n) (d:=(lo+n-lo) / 2) (Fv _) (by lia) (by lia);have sd:vT (arrOf (setArr st (mirror (arrOf st) lo (lo+n) ((lo+n-lo) / 2)))) lo (n+1):=fun i j hij hj=>by
    show K (mirror _ _ _ _) _<=K (mirror _ _ _ _) _;rw[K_mirror_equal (by rw[hB.size];omega) hall,K_mirror_equal (by rw[hB.size];omega) hall];by_cases hjn:j<n
    ·rw[hall (lo+i) (by lia) (by lia),hall (lo+j) (by omega) (by lia)];exact Int.le_refl _
    ·have hj':j=n:=(by lia);subst hj';by_cases hi':i=j
     ·subst hi';exact Int.le_refl _
     ·rw[hall (lo+i) (by omega) (by lia)];exact Int.le_of_lt hlt
   generalize (setArr st (mirror (arrOf st) lo (lo+n) ((lo+n-lo) / 2)))=stD at hD sd ⊢;exact tail _ hD sd
  ·rw[FA hgt];have e1:n=1:=(by lia);have hD:=hB;have sd:vT (arrOf st) lo (n+1):=fun i j hij hj=>by
    by_cases hi':i=j
    ·subst hi';exact Int.le_refl _
    ·have hi0:i=0:=(by lia);have hj1:j=1:=(by lia);subst hi0;subst hj1;subst e1;exact Int.le_of_lt hlt
   generalize st=stD at hD sd ⊢;exact tail _ hD sd
 case T=>
  intro stD hD sd;refine Gd (wpS_lift (wpAny_rule ⟨rfl,?_⟩));refine Gd (wpS_mono (wpS_forRange (I:=fun x c st'=>∃neq,c=(none,x,neq)/\SA a₀ z lo st'/\vT (arrOf st') lo x/\neq+1<=x/\∀i,x-(neq+1)<=i->i<x->K (arrOf st') (lo+i)=K (arrOf st') (lo+x-1)) (Q:=fun c st'=>∃m neq,c=(none,m,neq)/\n+1<=m/\m<=nrem/\SA a₀ z lo st'/\vT (arrOf st') lo m/\neq+1<=m/\∀i,m-(neq+1)<=i->i<m->K (arrOf st') (lo+i)=K (arrOf st') (lo+m-1)) ?dstep ?dfin ⟨0,rfl,hD,sd,by lia,fun i g1 g2=>by congr 1;lia⟩) ?dpost)
  case dfin=>rintro c st' ⟨neq,rfl,b1,b2,b3,b4⟩;rw[show max (n+1) nrem=nrem by omega]at b2 b3 b4 ⊢;exact⟨nrem,neq,rfl,by omega,Fv _,b1,b2,b3,b4⟩
  case dstep=>
   rintro x c st' hax hxn ⟨neq,rfl,b1,b2,b3,b4⟩;dsimp only;refine Gd (kH b1 h0 (by lia) (by lia) ?_);dsimp only;have heq:∀k,lo+x-(neq+1)<=k->k<lo+x->K (arrOf st') k=K (arrOf st') (lo+x-1):=fun k g1 g2=>by have:=b4 (k-lo) (by omega) (by lia);rw[show lo+(k-lo)=k by lia]at this;exact this
   by_cases hless:K (arrOf st') (lo+x)<K (arrOf st') (lo+x-1)
   ·rw[FQ hless,FH rfl];have step1:∀xs:Array Keyed,(∀k,K xs k=K (arrOf st') k)->vT xs lo (x+1):=by
     intro xs hk i j hij hj;rw[hk,hk];by_cases hjx:j<x
     ·exact b2 i j hij hjx
     ·have hj':j=x:=(by omega);subst hj';by_cases hi':i=j
      ·subst hi';exact Int.le_refl _
      ·have z1:=b2 i (j-1) (by lia) (by lia);rw[show lo+(j-1)=lo+j-1 by lia]at z1;exact Int.le_trans (Int.le_of_lt hless) z1
    by_cases hneq:neq>0
    ·rw[FH hneq];refine Gd (wpS_reverse (GO ⟨0,rfl,b1.mir (by lia) (by lia) (by lia),step1 _ (K_mirror_equal (by rw[b1.size];omega) heq),by omega,fun i g1 g2=>by congr 1;lia⟩))
    ·rw[FA hneq];exact GO ⟨0,rfl,b1,step1 _ (fun _=>rfl),by omega,fun i g1 g2=>by congr 1;lia⟩
   ·rw[FY hless,FA (by decide)];refine Gd (kH b1 h0 (by lia) (by omega) ?_);dsimp only;by_cases hlarger:K (arrOf st') (lo+x-1)<K (arrOf st') (lo+x)
    ·rw[FQ hlarger,FH rfl];exact GO ⟨x,neq,rfl,hax,by lia,b1,b2,b3,b4⟩
    ·rw[FY hlarger,FA (by decide)];have heqx:K (arrOf st') (lo+x)=K (arrOf st') (lo+x-1):=(by lia);refine GO ⟨neq+1,rfl,b1,fun i j hij hj=>?_,by lia,fun i g1 g2=>?_⟩
     ·by_cases hjx:j<x
      ·exact b2 i j hij hjx
      ·have hj':j=x:=(by omega);subst hj';by_cases hi':i=j
       ·subst hi';exact Int.le_refl _
       ·have z1:=b2 i (j-1) (by omega) (by omega);rw[show lo+(j-1)=lo+j-1 by omega]at z1;rw[heqx];exact z1
     ·rw[show lo+(x+1)-1=lo+x by lia];by_cases hix:i=x
      ·subst hix;rfl
      ·rw[heqx];exact b4 i (by lia) (by lia)
  case dpost=>
   rintro c st3 ⟨m,neq,rfl,m1,m2,b1,b2,b3,b4⟩;dsimp only;have heq:∀k,lo+m-(neq+1)<=k->k<lo+m->K (arrOf st3) k=K (arrOf st3) (lo+m-1):=fun k g1 g2=>by have:=b4 (k-lo) (by omega) (by omega);rw[show lo+(k-lo)=k by omega]at this;exact this
   by_cases hneq:neq>0
   ·rw[FH hneq];refine Gd (wpS_reverse ?_);have hD4:=b1.mir (i:=lo+m-(neq+1)) (j:=lo+m) (d:=(lo+m-(lo+m-(neq+1))) / 2) (by lia) (by lia) (by lia);have sd4:vT (arrOf (setArr st3 (mirror (arrOf st3) (lo+m-(neq+1)) (lo+m) ((lo+m-(lo+m-(neq+1))) / 2)))) lo m:=fun i j hij hj=>by
     show K (mirror _ _ _ _) _<=K (mirror _ _ _ _) _;rw[K_mirror_equal (by rw[b1.size];omega) heq,K_mirror_equal (by rw[b1.size];omega) heq];exact b2 i j hij hj
    generalize (setArr st3 (mirror (arrOf st3) (lo+m-(neq+1)) (lo+m) ((lo+m-(lo+m-(neq+1))) / 2)))=st4 at hD4 sd4 ⊢;have hD5:=hD4.mir (i:=lo) (j:=lo+m) (d:=(lo+m-lo) / 2) (Fv _) (by omega) (by lia);refine Gd (wpS_reverse ?_);have up5:kD (mirror (arrOf st4) lo (lo+m) ((lo+m-lo) / 2)) lo m:=fun i j hij hj=>by rw[K_mirror (by rw[hD4.size];omega),K_mirror (by rw[hD4.size];omega),FH (by lia),FH (by lia)];have z1:=sd4 (m-1-j) (m-1-i) (by omega) (by omega);rw[show lo+(lo+m)-1-(lo+i)=lo+(m-1-i) by lia,show lo+(lo+m)-1-(lo+j)=lo+(m-1-j) by lia];exact z1
    refine Gd (qV (fun _ _=>rfl) (fun _ _=>rfl) h0 hD5 hn (by lia) m2 up5 fun n5 q1 q2 q3 _=>?_);exact GO (h n5 _ hD5 (by lia) q2 q3)
   ·rw[FA hneq];have hD4:=b1;have sd4:=b2;generalize st3=st4 at hD4 sd4 ⊢;have hD5:=hD4.mir (i:=lo) (j:=lo+m) (d:=(lo+m-lo) / 2) (Fv _) (by omega) (by omega);refine Gd (wpS_reverse ?_);have up5:kD (mirror (arrOf st4) lo (lo+m) ((lo+m-lo) / 2)) lo m:=fun i j hij hj=>by
     rw[K_mirror (by rw[hD4.size];omega),K_mirror (by rw[hD4.size];omega),FH (by lia),FH (by lia)];have z1:=sd4 (m-1-j) (m-1-i) (by omega) (by omega);rw[show lo+(lo+m)-1-(lo+i)=lo+(m-1-i) by omega,show lo+(lo+m)-1-(lo+j)=lo+(m-1-j) by omega];exact z1
    refine Gd (qV (fun _ _=>rfl) (fun _ _=>rfl) h0 hD5 hn (by omega) m2 up5 fun n5 q1 q2 q3 _=>?_);exact GO (h n5 _ hD5 (by lia) q2 q3)
theorem SA.bub{st:SortSt}(h:SA a₀ z lo st){src d:Nat}(hs:src<a₀.size)(hd:lo+d<=src):SA a₀ z lo (setArr st (bubble (arrOf st) src d)):=by refine⟨(bubble_perm _ _ _).trans h.perm,h.kind,h.failed,h.pend,fun k hk=>?_⟩;show(bubble (arrOf st) src d)[k]?=_;rw[getElem?_bubble (by rw[h.size];exact hs) d (by lia),FA (by lia),FA (by lia)];exact h.keep k hk
theorem qo{st:SortSt}{n ok:Nat}{Q:Bool->SortSt->Prop}(h0:pL a₀)(hn:lo+n<=a₀.size)(hok:ok<=n)(hB:SA a₀ z lo st)(hs:kD (arrOf st) lo ok)
  (h:∀st',SA a₀ z lo st'->kD (arrOf st') lo n->Q true st'):wpS (model prog w) A E s (binarySort' lo n ok) Q st:=by
 rw[binarySort'_eq];refine Gd (wpS_mono (wpS_forRange (I:=fun k c st'=>c=(none,())/\SA a₀ z lo st'/\kD (arrOf st') lo (min k n)) (Q:=fun c st'=>c=(none,())/\SA a₀ z lo st'/\kD (arrOf st') lo n) ?step ?fin ?init) ?post)
 case post=>rintro c st' ⟨rfl,hB',hs'⟩;exact GO (h st' hB' hs')
 case init=>
  refine⟨rfl,hB,fun i j hij hj=>?_⟩;by_cases h1:ok=0
  ·have e:i=j:=(by lia);subst e;exact Int.le_refl _
  ·exact hs i j hij (by lia)
 case fin=>rintro c st' ⟨hc,hB',hs'⟩;refine⟨hc,hB',?_⟩;rwa[show min (max (max ok 1) n) n=n by lia]at hs'
 case step=>
  rintro k c st' hak hkn ⟨rfl,hB',hs'⟩;rw[show min k n=k by lia]at hs';refine Gd (wpS_mono (wpS_forRange (I:=fun x c st''=>st''=st'/\∃l r,c=(none,l,r)/\l<=r/\r<=k/\r-l<=k-x/\ (∀i,i<l->K (arrOf st') (lo+i)<=K (arrOf st') (lo+k))/\(∀i,r<=i->i<k->K (arrOf st') (lo+k)<K (arrOf st') (lo+i))) (Q:=fun c st''=>st''=st'/\∃l r,c=(none,l,r)/\l<=k/\ (∀i,i<l->K (arrOf st') (lo+i)<=K (arrOf st') (lo+k))/\(∀i,l<=i->i<k->K (arrOf st') (lo+k)<K (arrOf st') (lo+i))) ?istep ?ifin ?iinit) ?ipost)
  case iinit=>exact⟨rfl,0,k,rfl,by lia,by lia,by lia,fun i hi=>by lia,fun i h1 h2=>by lia⟩
  case ifin=>rintro c st'' ⟨rfl,l,r,rfl,hlr,hrk,hm,hlo,hhi⟩;have e:l=r:=(by lia);subst e;exact⟨rfl,l,l,rfl,hrk,hlo,hhi⟩
  case istep=>
   rintro x c st'' _ hxk ⟨rfl,l,r,rfl,hlr,hrk,hm,hlo,hhi⟩;dsimp only;by_cases hge:l>=r
   ·rw[FH hge];have e:l=r:=(by lia);subst e;exact GO ⟨rfl,l,l,rfl,hrk,hlo,hhi⟩
   ·rw[FA hge];refine Gd (kH hB' h0 (by lia) (by lia) ?_);dsimp only;by_cases hless:K (arrOf st'') (lo+k)<K (arrOf st'') (lo+(l+r) / 2)
    ·rw[FQ hless,FH rfl];refine GO ⟨rfl,l,(l+r) / 2,rfl,by lia,by lia,by omega,hlo,fun i h1 h2=>?_⟩;exact Int.lt_of_lt_of_le hless (hs' _ _ h1 h2)
    ·rw[FY hless,FA (by decide)];refine GO ⟨rfl,(l+r) / 2+1,r,rfl,by lia,by lia,by omega,fun i h1=>?_,hhi⟩;exact Int.le_trans (hs' i ((l+r) / 2) (by lia) (by lia)) (Int.not_lt.mp hless)
  case ipost=>
   rintro c st'' ⟨rfl,l,r,rfl,hlk,hlo,hhi⟩;dsimp only;rw[moveDown'_eq];refine Gd (wpS_modify (GO ⟨rfl,hB'.bub (by omega) (by lia),?_⟩));rw[show min (k+1) n=k+1 by lia];have hks:lo+k<(arrOf st'').size:=(by rw[hB'.size];omega);intro i j hij hj;show K (bubble (arrOf st'') (lo+k) (lo+k-(lo+l))) (lo+i)<=K (bubble (arrOf st'') (lo+k) (lo+k-(lo+l))) (lo+j);rw[K_bubble hks (by lia),K_bubble hks (by omega),show lo+k-(lo+k-(lo+l))=lo+l by lia];have e1:lo+i-1=lo+(i-1)\/i=0:=(by lia);have e2:lo+j-1=lo+(j-1)\/j=0:=(by lia);by_cases i1:i=l
   ·rw[FH (by lia)];by_cases j1:j=l
    ·rw[FH (by omega)];exact Int.le_refl _
    ·rw[FA (by lia),FH (by lia),show lo+j-1=lo+(j-1) by lia];exact Int.le_of_lt (hhi _ (by lia) (by lia))
   ·rw[FA (by lia)];by_cases i2:l<i
    ·rw[FH (by lia),FA (by lia),FH (by lia),show lo+i-1=lo+(i-1) by lia,show lo+j-1=lo+(j-1) by lia];exact hs' _ _ (by lia) (by lia)
    ·rw[FA (by lia)];by_cases j1:j=l
     ·rw[FH (by omega)];exact hlo _ (by lia)
     ·rw[FA (by omega)];by_cases j2:l<j
      ·rw[FH (by lia),show lo+j-1=lo+(j-1) by lia];exact hs' _ _ (by lia) (by lia)
      ·rw[FA (by lia)];exact hs' _ _ hij (by lia)
end
end LT
namespace LT
open PySem PySem.Spec PyProof.Rows L2
noncomputable abbrev knI:KN where
 kn:=fun p=>numOf p.1
 isK:=fun p=>∃n t,p.1=.int n t
 kd:=oneType'
section
variable{prog:Program}{w:World}{A:Around}{E:Value->Shared->Prop}{s:Shared}
theorem zp: @uL prog w A E s knI:=by
 letI:=knI;refine⟨fun {st x y Q} hk hx hy h=>?_⟩;obtain⟨a,t,e1⟩:=hx;obtain⟨b,u,e2⟩:=hy;have hk':kindOf st=oneType':=hk;rw[lt'_eq];refine Gd (wpS_get ?_);rw[hk',keyLt'_oneType,e1,e2];refine Gd (wpS_lift (wpAny_attempt (oneLt_int ⟨rfl,?_⟩)));have h':Q (some (decide (a<b))) st:=by
  have:decide (KN.kn x<KN.kn y)=decide (a<b):=by show decide (numOf x.1<numOf y.1)=_;rw[e1,e2];rfl
  rw[<-this];exact h
 exact GO h'
end
end LT
namespace L2
open PySem PySem.Spec PyProof.Rows LM
theorem bj.len{g:Nat->Option Col}{R:cf}(h:bj g R):R.length<=64:=by
 have nd:(R.map fun p=>bW p.1).Nodup:=by rw[List.nodup_iff_pairwise_ne,GI];exact List.Pairwise.imp (fun {a b} z e=>by lia) h.so
 have:=Gb nd (l₂:=List.range 64) fun x hx=>by obtain⟨p,hp,rfl⟩:=Fp.mp hx;exact F9.mpr (gB (h.ok p hp).1 (by decide) (h.ok p hp).2.1)
 rw[Fm,GJ]at this;exact this
theorem sQ{n:Int}:∀{c:Col},mX n c=true->∃i,ff n c i
 |r::c,h=>by
  by_cases e:av r=n
  ·exact⟨0,r,rfl,e,fun j _ hj=>absurd hj (Nat.not_lt_zero _)⟩
  ·have:mX n c=true:=by
    obtain⟨x,hx,ex⟩:=fu.mp h;rcases FL.mp hx with z|z
    ·rw[z]at ex;exact absurd ex e
    ·exact fu.mpr ⟨x,z,ex⟩
   obtain⟨i,r',h1,h2,h3⟩:=sQ this;refine⟨i+1,r',by rw[G8];exact h1,h2,fun j r'' hj hr=>?_⟩;cases j with
   |zero=>have:r=r'':=(by simpa using hr);rw[<-this];exact e
   |succ j=>rw[G8]at hr;exact h3 j r'' (by lia) hr
theorem zd{n h:Int}{c:Col}(ne:dX n h c≠[]):∃i j,ff n c i/\ff h c j:=by
 have a1:mX n c=true:=by
  cases e:mX n c with
  |true=>rfl
  |false=>exact absurd (lj fun r hr z=>by rw[fu.mpr ⟨r,hr,z⟩]at e;cases e) ne
 have a2:mX h c=true:=by
  cases e:mX h c with
  |true=>rfl
  |false=>exact absurd (nX fun r hr z=>by rw[fu.mpr ⟨r,hr,z⟩]at e;cases e) ne
 obtain⟨i,hi⟩:=sQ a1;obtain⟨j,hj⟩:=sQ a2;exact⟨i,j,hi,hj⟩
theorem yC{n h:Int}{c:Col}(nd:(c.map av).Nodup){i:Nat}(hi:ff n c i):c.take i++(c.drop i).filter (fun x=>decide (av x=h))++(c.drop i).filter (fun x=>decide (av x≠h))=dI n h c:=by
 have il:=hi.lt;cases ha:mX h (c.drop i)with
 |false=>
  have hno:∀r∈c.drop i,av r≠h:=fun r hr e=>by rw[fu.mpr ⟨r,hr,e⟩]at ha;cases ha
  rw[List.filter_eq_nil_iff.mpr (fun x hx=>by simpa using hno x hx),List.filter_eq_self.mpr (fun x hx=>by simpa using hno x hx),F3,Gs];unfold dI;rw[FH];refine Gn fun ne=>?_;obtain⟨i',j,hi',hj⟩:=zd ne;have ei:i'=i:=by
   obtain⟨r,h1,h2,h3⟩:=hi;obtain⟨r',h1',h2',h3'⟩:=hi';rcases Nat.lt_trichotomy i' i with z|z|z
   ·exact absurd h2' (h3 i' r' z h1')
   ·exact z
   ·exact absurd h2 (h3' i r z h1)
  subst ei;refine ne ?_;rw[jk hi' hj];have:j<i':=Gn fun z=>by obtain⟨r,h1,h2,_⟩:=hj;refine hno r ?_ h2;rw[List.mem_iff_getElem?];exact⟨j-i',by rw[List.getElem?_drop,show i'+(j-i')=j by lia];exact h1⟩
  rw[show j-i'=0 by lia,List.take_zero]
 |true=>
  obtain⟨j',hj'⟩:=sQ ha;obtain⟨r,hr,er,hn⟩:=hj';rw[List.getElem?_drop]at hr;have hj:ff h c (i+j'):=by
   refine⟨r,hr,er,fun k r' hk hr' e'=>?_⟩;have hd:=jo nd hr;have:r'∈c.take (i+j'):=by rw[List.mem_iff_getElem?];exact⟨k,by rw[List.getElem?_take_of_lt hk];exact hr'⟩
   exact hd.2.1 r' this (e'.trans er.symm)
  obtain⟨_,m1,m2⟩:=jo nd hr;rw[er]at m1 m2;have jl:=hj.lt;have sp:c.drop i=(c.drop i).take j'++r::c.drop (i+j'+1):=by
   conv=>lhs;rw[<-Gs j' (c.drop i),List.drop_drop]
   congr 1;obtain⟨hl,e'⟩:=FD.mp hr;rw[<-e',List.getElem_cons_drop]
  have f1:∀x∈(c.drop i).take j',av x≠h:=fun x hx=>m1 x (by
   rw[show j'=i+j'-i by lia,<-List.drop_take]at hx
   exact List.mem_of_mem_drop hx)
  have e1:(c.drop i).filter (fun x=>decide (av x=h))=[r]:=by rw[sp,Gh,List.filter_cons_of_pos (by simp[er]),List.filter_eq_nil_iff.mpr (fun x hx=>by simpa using f1 x hx),List.filter_eq_nil_iff.mpr (fun x hx=>by simpa using m2 x hx)];rfl
  have e2:(c.drop i).filter (fun x=>decide (av x≠h))=(c.drop i).take j'++c.drop (i+j'+1):=by
   conv=>lhs;rw[sp]
   rw[Gh,List.filter_cons_of_neg (by simp[er]),List.filter_eq_self.mpr (fun x hx=>by simpa using f1 x hx),List.filter_eq_self.mpr (fun x hx=>by simpa using m2 x hx)]
  rw[e1,e2];have pe:=jk hi hj;rw[show i+j'-i=j' by lia]at pe;by_cases h0:dX n h c=[]
  ·have hw:dI n h c=c:=(by unfold dI;rw[FH h0]);have z:(c.drop i).take j'=[]:=(by rw[<-pe];exact h0);have j0:j'=0:=by
    have:=congrArg List.length z;rw[FK,GP]at this;simp at this
    lia
   rw[hw,z,List.nil_append,List.append_assoc];subst j0;rw[List.take_zero,List.nil_append]at sp;have:[r]++c.drop (i+0+1)=c.drop i:=sp.symm;rw[this,Gs]
  ·rw[uN nd hi hj hr h0,pe];simp
theorem qA{kvs:List (Key×V)}{k:Key}{v v0:V}(h:eK kvs k=some v0):(putK kvs k v).map (·.1)=kvs.map (·.1):=by
 unfold putK;have an:(kvs.any fun kv=>decide (kv.1=k))=true:=by obtain⟨kv,hkv,e⟩:=Az h;exact List.any_eq_true.mpr ⟨kv,hkv,FQ e⟩
 rw[FH an,GB];refine List.map_congr_left fun kv _=>?_;show(if kv.1=k then(kv.1,v)else kv).1=kv.1;split<;>rfl
theorem yD{n h:Int}{c:Col}(nd:(c.map av).Nodup):(dI n h c).Perm c:=by
 by_cases h0:dX n h c=[]
 ·have hw:dI n h c=c:=by unfold dI;rw[FH h0]
  rw[hw]
 ·obtain⟨i,j,hi,hj⟩:=zd h0;rw[<-yC nd hi]
  conv=>rhs;rw[<-Gs i c]
  rw[List.append_assoc];refine List.Perm.append_left _ ?_;have:=List.filter_append_perm (fun x=>decide (av x=h)) (c.drop i);refine List.Perm.trans ?_ this;refine List.Perm.append_left _ ?_;have e:(fun x=>decide (av x≠h))=fun x:List Key=> !decide (av x=h):=by funext x;simp
  rw[e]
end L2
namespace L2
open PySem PySem.Spec PyProof.Rows
theorem uH{X:Cx}:fh X (.builtin "len") (fun xs H Q=>∃d kvs,xs=[.ref d]/\H d=some (.dK kvs)/\Q (.int (kvs.length:Nat)) H):=by
 intro pins s σ H xs us Q I r h;obtain⟨d,kvs,rfl,hd,q⟩:=h;obtain⟨u,rfl,rx⟩:=vals1 r;cases rx;obtain⟨hz,hs,ws,rv,hD⟩:=I.hok d _ hd;have hl:=rv.len;have lt:(ws.length:Int)<2^63:=by
  have:sizeLine<2^63:=by decide
  lia
 exact call_len_dict hs hD lt ⟨.int kvs.length,H,I.tok _,⟨_,by rw[hl]⟩,q⟩
end L2
namespace L2
open PySem PySem.Spec PyProof.Rows LM
mutual
theorem IsD.same{K:Frag}{H H':Hp}(s:ak H H'):∀{d:PyData}{v:V},IsD K H d v->IsD K H' d v
 |_,_,.non=>.non
 |_,_,.bl b=>.bl b
 |_,_,.int i=>.int i
 |_,_,.str x=>.str x
 |_,_,.tup h1 h2=>.tup (s.tup h1) (d5.same s h2)
 |_,_,.lst h1 h2=>.lst (s.seq h1) (d5.same s h2)
theorem d5.same{K:Frag}{H H':Hp}(s:ak H H'):∀{ds:List PyData}{vs:List V},d5 K H ds vs->d5 K H' ds vs
 |_,_,.nil=>.nil
 |_,_,.cons h1 h2=>.cons (IsD.same s h1) (d5.same s h2)
end
end L2
namespace PySem
open Sem (wp)
section
variable{prog:Program}{w:World}{A:Around}{E:Value->Shared->Prop}{h:Heap}{g:Array GenState}{d:Drawn}{t:Nat}{os:OsState}
variable{nm q:Str}{C N:Addr}{bs bm bmB:List Value}{hdct:Bool}{sn:List Str}{sub:List Value}{ab:Bool}{col:Option Bool}{dd:Option Addr}{k0 k1 k2 k3 k5:Option Value}{B newId initId:String}
theorem gM(F:ExcBaseFacts B newId initId bmB)(T:OwnTail h bmB bm){mN:Str->Option Value}{rest:List Value}{fI:Addr}{oI:Obj}{Q:Fin->Shared->Prop}
  (hC:h.get? C=some (excClassObj nm q C N bs bm hdct sn sub ab col dd k0 k1 k2 k3 k5 newId)) (hn:h.Ns N mN) (hi:mN "__init__"=some (.ref fI))
  (hfI:h.get? fI=some oI) (hfc:oI.cls=.type "function")
  (hq:∀h' e,Heap.MadeExcOf h h' e (.ref C) rest->
   wpAny (model prog w) A (call (.ref fI) (.ref e::rest)) (fun r s'=>r=.none/\Q (.done (.ret (.ref e))) s') E ⟨h',g,d,t,os⟩) (hrest:rest.length<=sizeLine:=by size_fits):
  wpAny (model prog w) A (Builtin.«type.__call__» ⟨.ref C::rest,[]⟩) Q E ⟨h,g,d,t,os⟩:=by
 repeat (first|with_reducible refine GU hC ?_|with_reducible refine wpAny_madeBy_exc hC ?_|wp_step)
 refine codeAny_call_builtin_code (Code.quiet_builtin _ F.quiet) (wpAny_check_new_subT F T hC ?_);refine codeAny_exc_new_subT F T hC ?_ hrest;show wpAny _ _ _ _ _ _;have hC₁:=Fn {cls:=.ref C,data:=.fields #[.ref h.objs.size,.none,.none,.none,.bool false,.none]}
  (Fn {cls:=.type "tuple",data:=.seq rest.toArray} hC)
 have hfI₁:=Fn {cls:=.ref C,data:=.fields #[.ref h.objs.size,.none,.none,.none,.bool false,.none]}
  (Fn {cls:=.type "tuple",data:=.seq rest.toArray} hfI)
 have hn₁:((h.push {cls:=.type "tuple",data:=.seq rest.toArray}).push {cls:=.ref C,data:=.fields #[.ref h.objs.size,.none,.none,.none,.bool false,.none]}).Ns N mN:=
  let ⟨o,es,ep,e,r⟩:=hn;⟨o,es,ep,Fn _ (Fn _ e),r⟩
 have hget:((h.push {cls:=.type "tuple",data:=.seq rest.toArray}).push
   {cls:=.ref C,data:=.fields #[.ref h.objs.size,.none,.none,.none,.bool false,.none]}).get? (h.objs.size+1)=some
   {cls:=.ref C,data:=.fields #[.ref h.objs.size,.none,.none,.none,.bool false,.none]}:=by heap_get
 have hcC:(Value.ref C::bm).contains (.ref C)=true:=by simp
 have T₁:=T.keeps (h':=(h.push {cls:=.type "tuple",data:=.seq rest.toArray}).push {cls:=.ref C,data:=.fields #[.ref h.objs.size,.none,.none,.none,.bool false,.none]})
  fun b o e=>Fn _ (Fn _ e)
 unfold isInstance
 repeat (first|with_reducible refine GU hget ?_|(with_reducible refine wpAny_isSubtype_exc hC₁ ?_;rw[hcC])|wp_step)
 show wpAny _ _ (typeLookup (.ref C) _) _ _ _;refine wpAny_typeLookup_tail hC₁ hn₁ T₁ F.mroIs F.init.lookup ?_;rw[hi];refine Gx (Fl ?_);unfold bindSpecial;refine Fl (wpAny_typeOf (T:="function") ⟨_,hfI₁,hfc⟩ ?_);rw[FH (by decide)];refine Fo (Fl (F8 (hq _ (h.objs.size+1) ⟨fun b o hb=>Fn _ (Fn _ hb),Heap.get?_none_of_le (Nat.le_succ _),h.objs.size,hget,Heap.get?_none_of_le (Fv _),?_⟩) (fun r s' hr=>?_) fun _ _ x=>x))
 ·exact Fn _ (Heap.get?_push_at rfl rfl)
 ·obtain⟨rfl,hQ⟩:=hr
  wp_walk
  exact hQ
theorem iT(F:ExcBaseFacts B newId initId bmB)(T:OwnTail h bmB bm){mN:Str->Option Value}{rest:List Value}{fI:Addr}{oI:Obj}{Q:Value->Shared->Prop}
  (hC:h.get? C=some (excClassObj nm q C N bs bm hdct sn sub ab col dd k0 k1 k2 k3 k5 newId)) (hn:h.Ns N mN) (hi:mN "__init__"=some (.ref fI))
  (hfI:h.get? fI=some oI) (hfc:oI.cls=.type "function")
  (hq:∀h' e,Heap.MadeExcOf h h' e (.ref C) rest->
   wpAny (model prog w) (A.under (.builtin "type.__call__" ⟨.ref C::rest,[]⟩)) (call (.ref fI) (.ref e::rest)) (fun r s'=>r=.none/\Q (.ref e) s') E ⟨h',g,d,t,os⟩) (hrest:rest.length<=sizeLine:=by size_fits):
  wpAny (model prog w) A (call (.ref C) rest) Q E ⟨h,g,d,t,os⟩:=by
 have f1:=tc_lookup;have f2:=tc_bind (.ref C);have hT:(⟨h,g,d,t,os⟩:Shared).TypeIs (.ref C) "type":=⟨_,hC,rfl⟩;refine wpAny_call (codeAny_of_tree ?_);show wpAny _ _ (callAny (.ref C) _) _ _ _
 repeat (any_goals (first|assumption|with_reducible refine GU hC ?_|wp_step))
 refine⟨rfl,?_⟩;refine codeAny_call_builtin_at (Code.quiet_builtin _ (by decide+kernel)) entry_typeCall (wpAny_check_type_call_sub hC (gM (hrest:=hrest) F T hC hn hi hfI hfc fun h' e hm=>?_));exact hq h' e hm
end
end PySem
namespace PySem.W
open PySem PySem.Calls PyProof.Rows Builtin Builtin.ObjectAttr
def vErr4:List Value:=[.type "ValueError",.type "Exception",.type "BaseException",.type "object"]
noncomputable def qH:List Value->Bool
 | []=>false
 |v::r=>(v::r)==vErr4||(match v with| .ref _=>qH r|_=>false)
theorem k6(self:Value):∀{l:List Value},qH l=true->refuseLoop self "__setattr__" l=pure ()
 | [],e=>by cases e
 |v::r,e=>by
  unfold qH at e;rcases Bool.or_eq_true_iff.mp e with q|q
  ·rw[show(v::r)=vErr4 from beq_iff_eq.mp q];exact PySem.F.store_ValueError.passes self
  ·split at q
   ·rw[refuseLoop_ref];exact k6 self q
   ·cases q
theorem mD{T:String}(hT:vErr4.contains (.type T)=true):∀{l:List Value},qH l=true->l.contains (.type T)=true
 | [],e=>by cases e
 |v::r,e=>by
  unfold qH at e;rcases Bool.or_eq_true_iff.mp e with q|q
  ·rw[show(v::r)=vErr4 from beq_iff_eq.mp q];exact hT
  ·split at q
   ·rw[List.contains_cons,mD hT q,Bool.or_true]
   ·cases q
noncomputable def jg(K:Frag)(C:Addr):Bool:=(clsIn K C).any fun cd=>qH cd.mro&&cd.hasDict
section
variable{K:Frag}{prog:Program}{w:World}{A:Around}{R:Result->Shared->Prop}{s:Shared}{x C:Addr}
theorem qC{ox:Obj}{od:Option Obj}{name:Str}{tk:Tok}{v:Value}{r:Option Value}(X:K.In s.heap)(I:InstAt s.heap x ox C od)(hp:jg K C=true)(ht:takerIn K C name=some r)
  (h:∀b,wpAny (model prog w) A.in1 (match r with|some a=>setByDescriptor a (.ref x) v|none=>storeInOwnDict (.ref x) (.ref C) (.str name tk) name v b)
   (fun fin s'=>match fin with| .done f=>R (.ok f) s'| .again c'=>c'.quiet=true/\codeAny (model prog w) A c' R s') (fun e s'=>R (.error e) s') s):
  codeAny (model prog w) A (.call (.builtin "object.__setattr__") ⟨[.ref x,.str name tk,v],[]⟩) R s:=by
 have SF:=PySem.F.store_ValueError;obtain⟨cd,hc,ho⟩:=any_some hp;obtain⟨ho,_⟩:=Gi.mp ho;have ne:cd.mro.isEmpty=false:=by cases q:cd.mro with|nil=>rw[q]at ho;cases ho|cons _ _=>rfl
 have sub:Looks (model prog w) s.heap (isInstance (.ref x) (.type "object")) true:=I.type.andThen (looks_mroIn X (by unfold mroIn;rw[hc,Option.bind_some,FA (by rw[ne];decide),mD rfl ho]));refine codeAny_call_builtin SF.slot.plain SF.entry (@check_slot (model prog w) _ _ s "object.__setattr__" "object" "__setattr__" (.ref x) [.str name tk,v] [] _ SF.kind SF.split sub (SF.args (.ref x) (.str name tk) v) ?_);obtain⟨attr,ha,hr⟩:=Option.bind_eq_some_iff.mp ht;have hm:Looks (model prog w) s.heap (mroOf (.ref C)) cd.mro:=(looks_clsIn X hc).andThen .now;have L3:Looks (model prog w) s.heap (storeTaker? attr) r:=by
  cases attr with
  |none=>cases hr;exact .now
  |some a=>obtain⟨b,hb,rfl⟩:=Option.map_eq_some_iff.mp hr;refine(looks_takesIn X hb).andThen ?_;cases b<;>exact .now
 rw[osa_eq,refuse_eq];refine Fl (Fl (I.type.here (Fl (hm.here ?_))));rw[k6 _ ho];refine Fo (Fl (I.type.here (Fl ((looks_findIn X ha).here (Fl (L3.here ?_))))));exact h _
theorem uW{E:Value->Shared->Prop}{ox:Obj}{name:Str}{v:Value}{Q:Unit->Shared->Prop}(X:K.In s.heap)(hx:s.heap.get? x=some ox)(hcl:ox.cls=.ref C)(hnc:notCls ox=true)(hdn:ox.dict=none)
  (hs:findIn K (.ref C) "__setattr__"=some (some (.builtin "object.__setattr__"))) (hp:jg K C=true) (ht:takerIn K C name=some none)
  (hq:∀h',(∀b o,b≠x->s.heap.get? b=some o->h'.get? b=some o)->h'.get? x=some {ox with dict:=some s.heap.objs.size}->h'.Ns1 s.heap.objs.size (fun y=>if y=name then some v else none)->∀t',Q () {s with heap:=h',toks:=t'}):
  wpAny (model prog w) A (setAttr (.ref x) name v) Q E s:=by
 have I:InstAt s.heap x ox C none:=⟨hx,hcl,hnc,by rw[hdn];trivial⟩;refine set_plain X I hs ?_;refine qC (s:={s with toks:=s.toks+1}) X I hp ht fun b=>?_;obtain⟨cd,hc,ho⟩:=any_some hp;obtain⟨_,hd'⟩:=Gi.mp ho;obtain⟨hh,g,d,t,os⟩:=s;obtain⟨oc,odi,oda,osl⟩:=ox;dsimp only at hcl hdn;subst hcl hdn;have hx₁:(hh.push {cls:=.type "dict",data:=.dict #[]}).get? x=some ⟨.ref C,none,oda,osl⟩:=Fn _ hx;have hxs:x≠hh.objs.size:=F4 (FI hx);refine Fl (Fo (Fl (Fl (wpAny_loadPart hx (Fl (Looks.here (s:=⟨hh,g,d,t+1,os⟩) (looks_clsIn X hc) ?_))))));rw[hd'];rw[FA (by decide)];split
 ·rename_i hcd;cases hcd
 rw[FA (by simp[typeHasDict])];split
 ·rename_i c hcd;rw[show oda=Data.cls c from hcd]at hnc;cases hnc
 refine Fl (wpAny_alloc' ?_);refine Fl (wpAny_update' hx₁ ?_);refine Fo ?_;have hgd:((hh.push {cls:=.type "dict",data:=.dict #[]}).update x fun o=>{cls:=o.cls,dict:=some hh.objs.size,data:=o.data,slots:=o.slots}).get? hh.objs.size
   =some {cls:=.type "dict",data:=.dict #[]}:=
  (Heap.get?_update_ne _ _ _ _ hxs.symm).trans (Heap.get?_push_at rfl rfl)
 have hnd:((hh.push {cls:=.type "dict",data:=.dict #[]}).update x fun o=>{cls:=o.cls,dict:=some hh.objs.size,data:=o.data,slots:=o.slots}).Ns hh.objs.size (fun _=>none):=
  ⟨_,#[],_,hgd,rfl,fun e he=>absurd he (by simp),fun _=>rfl⟩
 show wpAny _ _ (storeInDict hh.objs.size (.str name t) name v) _ _ _;unfold storeInDict newKeyGuard;refine Fl (Fo (Fl (wpAny_nsSet1 (Heap.Ns1.of_empty hnd) fun h' hn' hs2=>?_)));obtain⟨oD,esD,epD,hoD,hdD,hcD⟩:=hn'.count (Within.cons name v Within.nil);refine Fl (wpAny_lookBehind hoD (by rw[hdD];exact pastItsLine_dict (FW hcD (by rw[FV,G6,Gm];lia))) ?_);refine Fo (hq h' (fun b ob hbx hb=>?_) ?_ hn' _)
 ·exact(hs2.2 b (F4 (FI hb))).trans ((Heap.get?_update_ne _ _ _ _ hbx).trans (Fn _ hb))
 ·refine(hs2.2 x hxs).trans (GF _ hx₁ ?_);have hfr:=(Heap.get?_some_iff.mp hx).2;cases oda<;>first|rfl|exact hfr
theorem xr{E:Value->Shared->Prop}{ox:Obj}{dx:Addr}{mA:Str->Option Value}{ns:List Str}{name:Str}{v:Value}{Q:Unit->Shared->Prop}(X:K.In s.heap)(hx:s.heap.get? x=some ox)(hcl:ox.cls=.ref C)(hnc:notCls ox=true)(hdx:ox.dict=some dx)(hns:s.heap.Ns1 dx mA)
  (hs:findIn K (.ref C) "__setattr__"=some (some (.builtin "object.__setattr__"))) (hp:jg K C=true) (ht:takerIn K C name=some none) (hw:Within mA ns) (hsz:ns.length<sizeLine)
  (hq:∀h',(∀b,b≠dx->h'.get? b=s.heap.get? b)->h'.Ns1 dx (fun y=>if y=name then some v else mA y)->∀t',Q () {s with heap:=h',toks:=t'}):
  wpAny (model prog w) A (setAttr (.ref x) name v) Q E s:=by
 obtain⟨od,es0,ep0,hod,_⟩:=id hns;have I:InstAt s.heap x ox C (some od):=⟨hx,hcl,hnc,by rw[hdx];exact hod⟩;refine set_plain X I hs ?_;refine qC (s:={s with toks:=s.toks+1}) X I hp ht fun b=>?_;obtain⟨cd,hc,ho⟩:=any_some hp;obtain⟨_,hd'⟩:=Gi.mp ho;obtain⟨hh,g,d,t,os⟩:=s;obtain⟨oc,odi,oda,osl⟩:=ox;dsimp only at hcl hdx;subst hcl hdx;refine Fl (Fo (Fl (Fl (wpAny_loadPart hx (Fl (Looks.here (s:=⟨hh,g,d,t+1,os⟩) (looks_clsIn X hc) ?_))))));rw[hd'];refine Fo (a:=some dx) ?_;show wpAny _ _ (storeInDict dx (.str name t) name v) _ _ _;unfold storeInDict newKeyGuard;refine Fl (Fo (Fl (wpAny_nsSet1 hns fun h' hn' hs2=>?_)));obtain⟨oD,esD,epD,hoD,hdD,hcD⟩:=hn'.count (Within.cons name v hw);refine Fl (wpAny_lookBehind hoD (by rw[hdD];exact pastItsLine_dict (FW hcD (by rw[FV];lia))) ?_);exact Fo (hq h' (fun b hb=>hs2.2 b hb) hn' _)
end
section
variable{K:Frag}{prog:Program}{w:World}{A:Around}{E:Value->Shared->Prop}{x C dx:Addr}{ox:Obj}{mA:Str->Option Value}{name:Str}{v:Value}
 {hh:Heap} {g:Array GenState} {d:Drawn} {t:Nat} {os:OsState}
theorem vE{tk:Tok}{Q:Fin->Shared->Prop}(X:K.In hh)(hx:hh.get? x=some ox)(hcl:ox.cls=.ref C)(hnc:notCls ox=true)(hdx:ox.dict=some dx)(hns:hh.Ns1 dx mA)(hv:mA name=some v)
  (hp:jg K C=true) (hna:findIn K (.ref C) name=some none) (hq:Q (.done (.ret v)) ⟨hh,g,d,t,os⟩):
  wpAny (model prog w) A (Builtin.«object.__getattribute__» ⟨[.ref x,.str name tk],[]⟩) Q E ⟨hh,g,d,t,os⟩:=by
 obtain⟨cd,hc,ho⟩:=any_some hp;obtain⟨_,hd'⟩:=Gi.mp ho;unfold Builtin.«object.__getattribute__»
 repeat (first|(with_reducible refine GU hx ?_;rw[hcl])|(with_reducible refine Looks.here (s:=⟨hh,g,d,t,os⟩) (looks_findIn X hna) ?_)|wp_step)
 split
 ·rename_i c hcd;unfold notCls at hnc;rw[hcd]at hnc;cases hnc
 unfold instanceDict
 repeat (first|(with_reducible refine GU hx ?_;rw[hcl])|(with_reducible refine Looks.here (s:=⟨hh,g,d,t,os⟩) (looks_clsIn X hc) ?_;rw[hd'])|wp_step)
 rw[hdx]
 repeat (first|(with_reducible refine wpAny_nsGet hns.ns ?_;rw[hv])|wp_step)
 exact hq
theorem ya{tk:Tok}{R:Result->Shared->Prop}(X:K.In hh)(hx:hh.get? x=some ox)(hcl:ox.cls=.ref C)(hnc:notCls ox=true)(hdx:ox.dict=some dx)(hns:hh.Ns1 dx mA)(hv:mA name=some v)
  (hp:jg K C=true) (hna:findIn K (.ref C) name=some none) (hq:R (.ok (.ret v)) ⟨hh,g,d,t,os⟩):
  codeAny (model prog w) A (.call (.builtin "BaseException.__getattribute__") ⟨[.ref x,.str name tk],[]⟩) R ⟨hh,g,d,t,os⟩:=by
 obtain⟨cd,hc,ho⟩:=any_some hp;obtain⟨ho,_⟩:=Gi.mp ho;obtain⟨od,es0,ep0,hod,_⟩:=id hns;have I:InstAt hh x ox C (some od):=⟨hx,hcl,hnc,by rw[hdx];exact hod⟩;have ne:cd.mro.isEmpty=false:=by cases q:cd.mro with|nil=>rw[q]at ho;cases ho|cons _ _=>rfl
 have sub:Looks (model prog w) hh (isInstance (.ref x) (.type "BaseException")) true:=I.type.andThen (looks_mroIn X (by unfold mroIn;rw[hc,Option.bind_some,FA (by rw[ne];decide),mD rfl ho]));exact codeAny_call_builtin PySem.F.excAttr_ValueError.ga.plain PySem.F.entry_bexc_ga (@check_slot (model prog w) _ _ ⟨hh,g,d,t,os⟩ "BaseException.__getattribute__" "BaseException" "__getattribute__" (.ref x) [.str name tk] [] _ (by decide+kernel) (by decide+kernel) sub (PySem.F.args_bexc_ga (.ref x) (.str name tk)) (vE X hx hcl hnc hdx hns hv hp hna hq))
theorem Fc{expr:Bool}{Q:Value->Shared->Prop}(X:K.In hh)(hx:hh.get? x=some ox)(hcl:ox.cls=.ref C)(hnc:notCls ox=true)(hdx:ox.dict=some dx)(hns:hh.Ns1 dx mA)(hv:mA name=some v)
  (hp:jg K C=true) (hga:findIn K (.ref C) "__getattribute__"=some (some (.builtin "BaseException.__getattribute__"))) (hgt:findIn K (.ref C) "__getattr__"=some none) (hna:findIn K (.ref C) name=some none) (hh':handedOut v=pure v)
  (hq:Q v ⟨hh,g,d,t+1,os⟩):wpAny (model prog w) A (getAttr (.ref x) name expr) Q E ⟨hh,g,d,t,os⟩:=by
 have f3:=PySem.F.excAttr_ValueError.ga.bind (.ref x);have hx0:(expr&&onTheHeap (Value.builtin "BaseException.__getattribute__"))=false:=by cases expr<;>rfl
 have hx2:(Value.builtin "BaseException.__getattribute__"==Value.builtin "object.__getattribute__")=false:=by decide+kernel
 have hx1:(onTheHeap (Value.ref C)&&Value.builtin "BaseException.__getattribute__"==Value.builtin "object.__getattribute__")=false:=by rw[hx2];rfl
 unfold getAttr getAttrBy
 repeat (any_goals (first|assumption|(with_reducible refine GU hx ?_;rw[hcl])|(with_reducible refine Looks.here (s:=⟨hh,g,d,t+1,os⟩) (looks_findIn X hga) ?_)|(with_reducible refine Looks.here (s:=⟨hh,g,d,t+1,os⟩) (looks_findIn X hgt) ?_)|wp_step))
 refine ya X hx hcl hnc hdx hns hv hp hna ?_;show wpAny _ _ (handedOut v) _ _ _;rw[hh'];exact Fo hq
end
end PySem.W
namespace PySem.W
open PySem PySem.Calls PyProof.Rows
theorem vh{K:Frag}{h:Heap}{N:Addr}{mg:Str->Option Value}{n:Str}{v:Value}(X:K.In h)(G:h.Ns N mg)(e:nsIn K N n=some (some v)):mg n=some v:=by
 obtain⟨o,es,ep,ho,hd,_,hf⟩:=G;unfold nsIn at e;split at e
 ·rename_i c d es' n' sl q;have:=X _ _ q;rw[ho]at this;cases this;cases hd;split at e
  ·rename_i en he;cases e;rw[<-hf];unfold nsFind findBy;rw[<-Array.find?_toList,he];rfl
  ·split at e<;>cases e
 ·cases e
noncomputable def Ca(K:Frag)(C:Addr)(bmB:List Value)(newId:String)(fI:Addr)(c:Value)(mro:List Value)(ns:Addr)(del:Bool)(sl:Array (Option Value)):Bool:=
 c== .type "type"&&(sl.size==6&&(sl[4]? ==some (some (.builtin newId))&&(mro.head?==some (.ref C)&&(!del&&(tailIn K bmB mro.tail&&(nsOkIn K ns&&nsIn K ns "__init__"==some (some (.ref fI))))))))
noncomputable def jv(K:Frag)(C:Addr)(bmB:List Value)(newId:String)(fI:Addr):Bool:=(K.lookup C).any fun o=>match o.data with
 | .cls cd=>Ca K C bmB newId fI o.cls cd.mro cd.ns cd.hasDel o.slots
 |_=>false
theorem Cv{α:Type}{l:Array α}{x:α}(h:l.size=6)(e:l[4]?=some x):∃a b c d f,l= #[a,b,c,d,x,f]:=by obtain⟨l⟩:=l;obtain⟨a,l,rfl⟩:=GK h;obtain⟨b,l,rfl⟩:=GK (F5 h);obtain⟨c,l,rfl⟩:=GK (F5 (F5 h));obtain⟨d,l,rfl⟩:=GK (F5 (F5 (F5 h)));obtain⟨y,l,rfl⟩:=GK (F5 (F5 (F5 (F5 h))));obtain⟨f,rfl⟩:=List.length_eq_one_iff.1 (F5 (F5 (F5 (F5 (F5 h)))));cases e;exact⟨a,b,c,d,f,rfl⟩
theorem ku{K:Frag}{h:Heap}{C fI:Addr}(X:K.In h)(z:jv K C vErr4 "ValueError.__new__" fI=true):
  ∃tl N nm qn bs hd sn sub ab col dd k0 k1 k2 k3 k5 mN,h.get? C=some (excClassObj nm qn C N bs tl hd sn sub ab col dd k0 k1 k2 k3 k5 "ValueError.__new__")/\h.Ns N mN/\mN "__init__"=some (.ref fI)/\OwnTail h vErr4 tl/\∀b r,mroIn K C b=some r->(Value.ref C::tl).contains b=r:=by
 unfold jv at z;cases ho:K.lookup C
 case none=>rw[ho]at z;cases z
 case some o=>
  rw[ho]at z;obtain⟨c,dd,da,sl⟩:=o;cases da
  case cls cd=>
   obtain⟨nm,bs,mro,ns,qn,hd,sn,sub,ab,col,del⟩:=cd;have z:Ca K C vErr4 "ValueError.__new__" fI c mro ns del sl=true:=z;obtain⟨z1,z⟩:=Gi.1 z;obtain⟨z2,z⟩:=Gi.1 z;obtain⟨z3,z⟩:=Gi.1 z;obtain⟨z4,z⟩:=Gi.1 z;obtain⟨z5,z⟩:=Gi.1 z;obtain⟨z6,z⟩:=Gi.1 z;obtain⟨z7,z8⟩:=Gi.1 z;obtain⟨tl,rfl⟩:=List.head?_eq_some_iff.1 (eq_of_beq z4);obtain⟨k0,k1,k2,k3,k5,rfl⟩:=Cv (eq_of_beq z2) (eq_of_beq z3);cases eq_of_beq z1;cases Bool.not_eq_true' _ |>.mp z5;have hN:h.Ns ns _:=.of_isNs (isNs_of_in X z7)
   exact⟨tl,ns,nm,qn,bs,hd,sn,sub,ab,col,dd,k0,k1,k2,k3,k5,_,X _ _ ho,hN,vh X hN (eq_of_beq z8),tail_of_in X z6,fun b r hr=>by
    unfold mroIn clsIn at hr;rw[ho]at hr
    exact F0 hr⟩
  all_goals cases z
section
variable{K:Frag}{prog:Program}{w:World}{A:Around}{E:Value->Shared->Prop}{x C:Addr}{hh:Heap}{g:Array GenState}{d:Drawn}{t:Nat}{os:OsState}
 {nm q:Str} {N:Addr} {bs bm:List Value} {hdct:Bool} {sn:List Str} {sub:List Value} {ab:Bool} {col:Option Bool} {dd:Option Addr} {k0 k1 k2 k3 k5:Option Value} {newId:String}
theorem En{t0:Addr}{rest:List Value}{Q:Value->Shared->Prop}(T:OwnTail hh vErr4 bm)(hC:hh.get? C=some (excClassObj nm q C N bs bm hdct sn sub ab col dd k0 k1 k2 k3 k5 "ValueError.__new__"))
  (hx:hh.get? x=some {cls:=.ref C,data:=.fields #[.ref t0,.none,.none,.none,.bool false,.none]})
  (hq:∀h',(∀b o,b≠x->hh.get? b=some o->h'.get? b=some o)->h'.get? x=some {cls:=.ref C,data:=.fields #[.ref hh.objs.size,.none,.none,.none,.bool false,.none]}->Q .none ⟨h',g,d,t,os⟩) (hrest:rest.length<=sizeLine:=by size_fits):
  wpAny (model prog w) A (call (.builtin "ValueError.__init__") (.ref x::rest)) Q E ⟨hh,g,d,t,os⟩:=by
 have F:=PySem.F.excBase_ValueError;refine wpAny_call (codeAny_call_builtin F.init.plain F.initEntry (wpAny_check_init_subT F T hC hx rfl ?_))
 wp_walk
 have hx₁:(hh.push {cls:=Value.type "tuple",data:=Data.seq rest.toArray}).get? x=some {cls:=.ref C,data:=.fields #[.ref t0,.none,.none,.none,.bool false,.none]}:=Fn _ hx;refine hq _ (fun b o ne e=>?_) ?_
 ·rw[GL _ _ (GR ne)];exact Fn _ e
 ·rw[GF _ hx₁ rfl];rfl
end
end PySem.W
namespace L2
open PySem PySem.Spec PyProof.Rows
noncomputable def XO(x C:Addr)(d:Option Addr):HO:=.ext fun h=>∃t0,h.get? x=some {cls:=.ref C,dict:=d,data:=.fields #[.ref t0,.none,.none,.none,.bool false,.none]}
noncomputable def XD(a:Addr)(fs:List (Str×V)):HO:=.ext fun h=>∃mA,h.Ns1 a mA/\(∀f,hU (fs.lookup f) (mA f))/\PySem.Within mA (fs.map (·.1))
section
variable{P:Program}{w:World}{H:Hp}{h:Heap}{x C a:Addr}{d:Option Addr}{fs:List (Str×V)}
theorem yo(e:∃t0,h.get? x=some {cls:=.ref C,dict:=d,data:=.fields #[.ref t0,.none,.none,.none,.bool false,.none]}):bR P w H h x (XO x C d):=by obtain⟨t0,e⟩:=e;exact⟨⟨t0,e⟩,⟨_,e⟩,fun h1 h2 ⟨t,e1⟩ k=>⟨t,k _ e1⟩⟩
theorem BW{mA:Str->Option Value}(n:h.Ns1 a mA)(r:∀f,hU (fs.lookup f) (mA f))(w':PySem.Within mA (fs.map (·.1))):bR P w H h a (XD a fs):=by obtain⟨o,es,ep,e,c⟩:=id n;exact⟨⟨mA,n,r,w'⟩,⟨o,e⟩,fun h1 h2 ⟨mA',⟨o1,es1,ep1,e1,c1⟩,r1,w1⟩ k=>⟨mA',⟨o1,es1,ep1,k _ e1,c1⟩,r1,w1⟩⟩
end
theorem Cg{H:Hp}{a:Addr}{o:HO}(e:H a=some o):upd H a o=H:=by
 funext b;unfold upd;split
 ·rename_i z;rw[z,e]
 ·rfl
section
variable{X:Cx}{pins:List (Addr×Obj)}{σ:St}{H:Hp}{s:Shared}
theorem Inv.trackO{x C:Addr}{d:Option Addr}(I:Inv X pins σ H s)(n1:X.s₀.heap.get? x=none)(u1:H x=none)(p2:∀p∈X.pn++pins,p.1≠x)(p3:∀y c,X.env.cells.lookup y=some c->c≠x)(p4:x≠X.env.locals)
  (e:∃t0,s.heap.get? x=some {cls:=.ref C,dict:=d,data:=.fields #[.ref t0,.none,.none,.none,.bool false,.none]}):Inv X pins σ (upd H x (XO x C d)) s:=by
 have nx:∀b u,H b=some u->b≠x:=fun b u e z=>by rw[z,u1]at e;cases e
 refine⟨I.ok,I.os,I.bare,⟨I.base.keep,I.base.slot,fun b o' e1 n hx=>?_,I.base.there,fun b xs e1=>?_,fun b o' u e1=>?_,fun b ps e1=>?_⟩,I.loc,I.cell,?_,fun y c e1=>?_,fun p hp=>?_,fun b u e1=>?_,I.len⟩
 ·rw[au (fun z=>by rw[z,n1]at e1;cases e1)];exact I.base.free b o' e1 n hx
 ·have q:=I.base.tups b xs e1;rw[au (nx b _ q)];exact q
 ·have q:=I.base.frzs b o' u e1;rw[au (nx b _ q)];exact q
 ·obtain⟨more,q⟩:=I.base.tbls b ps e1;exact⟨more,by rw[au (nx b _ q)];exact q⟩
 ·rw[au (GR p4)];exact I.free
 ·rw[au (p3 y c e1)];exact I.freeC y c e1
 ·obtain⟨a1,a2,a3⟩:=I.pin p hp;exact⟨a1,by rw[au (p2 p hp)];exact a2,a3⟩
 ·by_cases hb:b=x
  ·subst hb;rw[ae]at e1;cases e1;exact yo e
  ·rw[au hb]at e1;refine(I.hok b u e1).stay (fun _ _ _ q=>q) (fun c q=>?_) fun c xs q=>?_
   ·rw[au (nx c _ q)];exact q
   ·rw[au (nx c _ q)];exact q
structure Ar(K:Frag)(mg:Str->Option Value)(x:Str)(C fI:Addr):Prop where
 mg:mg x=some (.ref C)
 ok:PySem.W.jv K C PySem.W.vErr4 "ValueError.__new__" fI=true
 fn:PySem.W.isFn K (.ref fI)=true
 kp:keepIn K (.ref C)=true
def yK(C:Addr)(sp:Sp)(E:XK)(t:TA):TE:=fun σ H Q=>t σ H fun vs H1=>vs.length<=sizeLine/\∀x,H1 x=none->sp (.ref x::vs) (upd H1 x (XO x C none)) (fun v H2=>v=.non/\Q (.ref x) H2) E
theorem xA{CX:CXT}{k:Nat}{f C:Addr}{fd:FuncData}{ps:List Str}{sp:Sp}{E:XK}{c:Str}{Q:VK}{us:List Value}{vs:List V}(M:Ar X.K X.mg c C f)(F:gK X.prog X.w X.K X.mg X.base CX k f fd ps sp)(hr:cA (k+1) X.A)(hb:Binds X.K fd ps [])
  (hx:Passes CX X E) (hex:X.ex=[]) (I:Inv X pins σ H s) (r:Vals vs us) (hl:vs.length<=sizeLine)
  (h:∀x,H x=none->sp (.ref x::vs) (upd H x (XO x C none)) (fun v H2=>v=.non/\Q (.ref x) H2) E):
  wpAny (model X.prog X.w) X.A (call (.ref C) us) (EP X pins σ Q) X.xe s:=by
 obtain⟨tl,N,nm,qn,bs,hdt,sn,sub,ab,col,dd,k0,k1,k2,k3,k5,mN,hC,hN,hi,T,_⟩:=PySem.W.ku I.kIn M.ok;have hx0:us.length<=sizeLine:=by rw[<-r.length];exact hl
 obtain⟨oI,hfI,hfc⟩:∃oI,s.heap.get? f=some oI/\oI.cls=.type "function":=by have z:=beq_iff_eq.mp M.fn;obtain⟨o,ho,hc⟩:=Option.map_eq_some_iff.mp z;exact⟨o,I.kIn _ _ ho,hc⟩
 obtain⟨hp,g,d,tk,os⟩:=s;refine iT (hrest:=hx0) PySem.F.excBase_ValueError T hC hN hi hfI hfc fun h' x hm=>?_;obtain⟨p1,p2,p3,p4⟩:=I.apart hex hm.new;obtain⟨tt,ht,_,_⟩:=hm.there;have I2:=(I.kept (t':=tk) hm.keeps).trackO p1 (I.untr hm.new) p2 p3 p4 ⟨tt,ht⟩;have hq:=h x (I.untr hm.new);have r2:Vals (V.ref x::vs) (Value.ref x::us):=.cons rfl r;have hl2:(Value.ref x::us++[]).length=ps.length:=by have e:=r2.length;rw[F.len _ _ _ _ hq]at e;rw[F3];exact e.symm
 have hb':=hb _ (Value.ref x::us) I2.kIn hl2;rw[F3]at hb';refine wpAny_call (codeAny_mono (F.run _ X.stack _ _ ⟨Value.ref x::us,[]⟩ (Value.ref x::us) _ _ E (hr.make C us []) (I2.env0.make C us []) hb' r2 hq) fun z s' hq'=>?_);cases z with
 |error e=>exact hx pins σ _ _ e s' I2 hq'
 |ok fl=>
  cases fl with
  |ret u=>obtain⟨v,H',I3,rv,ev,q3⟩:=I2.after hq';subst ev;exact⟨rv,⟨V.ref x,H',I3,rfl,q3⟩⟩
  |next=>exact False.elim hq'
  |brk=>exact False.elim hq'
  |cont=>exact False.elim hq'
theorem A8{CX:CXT}{k:Nat}{f C:Addr}{fd:FuncData}{ps:List Str}{sp:Sp}{E:XK}{c:Str}{e:Expr}{es:List Expr}{t:TA}{np pos:Pos}(M:Ar X.K X.mg c C f)(F:gK X.prog X.w X.K X.mg X.base CX k f fd ps sp)(hr:cA (k+1) X.A)(hb:Binds X.K fd ps [])(hx:Passes CX X E)
  (ha:PA X (e::es) t) (hg:Gl X c:=by rfl) (hex:X.ex=[]:=by rfl) (hdb:(c==("__debug__":Str))=false:=by decide) (he:starEach (e::es) X.env=(false,eval e X.env)::starEach es X.env:=by rfl) (hpl:(backTo pos (starEach es X.env)).any (·.1)=false:=by rfl):
  PE X (.Call (.Name c np) (e::es) [] pos) (yK C sp E t):=by
 intro pins s σ H Q I h;refine wpAny_Call_Name_kw (jC I hg M.mg ?_ hdb);refine PySem.W.callWith_K (h₀:=X.base) I.ok.mod.kin M.kp (thn (ha pos pins s σ H _ I h) fun us s1 ⟨vs,H1,I1,r,hl,q⟩=>⟨I1.kIn,?_⟩) he hpl;exact xA M F hr hb hx hex I1 r hl q
structure BU(K:Frag)(mg:Str->Option Value)(c:Str)(L:Addr):Prop where
 mg:mg c=some (.ref L)
 rd:PySem.W.readsIn K L (.type "type")=true
 sp:PySem.W.specialIn K (.ref L) "__getattribute__"=some (some (.builtin "type.__getattribute__"))
 fc:PySem.W.findCls K (.ref L) (.type "type") "__init__"=some (.val (.builtin "ValueError.__init__"))
def Co(K:Frag)(t:TA):TE:=fun σ H Q=>t σ H fun vs H1=>∃x C f r,vs=.ref x::r/\r.length<=sizeLine/\H1 x=some (XO x C none)/\PySem.W.jv K C PySem.W.vErr4 "ValueError.__new__" f=true/\Q .non H1
theorem za{c:Str}{L:Addr}{e:Expr}{es:List Expr}{t:TA}{np apos pos:Pos}{pl:Sem Bool}(Z:BU X.K X.mg c L)(ha:PA X (e::es) t)(hg:Gl X c:=by rfl)(hdb:(c==("__debug__":Str))=false:=by decide)
  (hst:starEach (e::es) X.env=(false,eval e X.env)::starEach es X.env:=by rfl) (hpl:(backTo pos (starEach es X.env)).any (·.1)=false:=by rfl)
  (ht:eval (.Call (.Attribute (.Name c np) "__init__" apos) (e::es) [] pos) X.env=(do
   let ov <-eval (.Name c np) X.env
   standAt apos.atName
   let (f,first) <-holding [ov] (getMethod ov "__init__" pl)
   callWith pos f first (backTo pos (starEach (e::es) X.env)) (backToKw pos (keywordEach [] X.env))):=by rfl):
  PE X (.Call (.Attribute (.Name c np) "__init__" apos) (e::es) [] pos) (Co X.K t):=by
 intro pins s σ H Q I h;refine PySem.W.methodCall_KW (pl:=pl) (thn (wy (v:=.ref L) hg Z.mg rfl hdb pins s σ H (fun x H1=>x=.ref L/\H1=H) I ⟨rfl,rfl⟩) fun u s1 hPz=>?_) ht;obtain⟨x,H1,I1,rx,ex,eH⟩:=hPz;subst ex eH;obtain rfl:u=Value.ref L:=rx;refine PySem.W.method_cls I1.kIn Z.sp (PySem.W.cls_value I1.kIn Z.rd Z.fc (by decide+kernel) ?_);refine PyProof.Rows.callWith_builtin1 (thn (ha pos pins _ σ _ _ (I1.tok _) h) fun us s2 hPz=>?_) hst hpl;obtain⟨vs,H2,I2,r2,q2⟩:=hPz;obtain⟨x,C,f,r,rfl,hl,hx,ok,q⟩:=q2;obtain⟨u0,us',rfl,r0,r1⟩:∃u0 us',us=u0::us'/\RelV (.ref x) u0/\Vals r us':=by
  cases r2 with
  |cons a b=>exact⟨_,_,rfl,a,b⟩
 obtain rfl:u0=Value.ref x:=r0;obtain⟨tl,N,nm,qn,bs,hdt,sn,sub,ab,col,dd,k0,k1,k2,k3,k5,mN,hC,hN,hi,T,_⟩:=PySem.W.ku I2.kIn ok;obtain⟨t0,ht0⟩:=(I2.hok x _ hx).1;obtain⟨hp,g,d,tk,os⟩:=s2;refine PySem.W.En T hC ht0 (fun h' keep e'=>?_) (by rw[<-r1.length];exact hl);have J:=I2.write (x:=x) (e:=x) (o:=XO x C none) (t':=tk) (by rw[hx];trivial) (.inl rfl) keep ⟨_,e'⟩ (yo ⟨_,e'⟩);rw[Cg hx]at J;exact⟨.non,H2,J,rfl,q⟩
theorem qy{fs:List (Str×V)}{mA:Str->Option Value}{f:Str}{y:V}{u:Value}(r:∀g,hU (fs.lookup g) (mA g))(ry:RelV y u):∀g,hU (((f,y)::fs).lookup g) (if g=f then some u else mA g):=fun g=>by
 by_cases z:g=f
 ·subst z;rw[FH rfl,List.lookup_cons,beq_self_eq_true];exact ry
 ·rw[FA z,List.lookup_cons,show(g==f)=false from beq_eq_false_iff_ne.mpr z];exact r g
structure Aq(K:Frag)(C:Addr)(f:Str):Prop where
 st:findIn K (.ref C) "__setattr__"=some (some (.builtin "object.__setattr__"))
 pl:PySem.W.jg K C=true
 tk:PySem.W.takerIn K C f=some none
noncomputable def D1 (K : PySem.W.Frag) (ta tv : TE) (f : Str) : TS := fun D σ H => tv σ H fun y H1 => ta σ H1 fun x H2 => ∃ a C, x = .ref a ∧ Aq K C f ∧
  ((H2 a = some (XO a C none) ∧ ∀ dx, H2 dx = none → dx ≠ a → D.nx σ (upd (upd H2 a (XO a C (some dx))) dx (XD dx [(f, y)]))) ∨
   (∃ dx fs, H2 a = some (XO a C (some dx)) ∧ H2 dx = some (XD dx fs) ∧ fs.length ≤ 100 ∧ D.nx σ (upd H2 dx (XD dx ((f, y) :: fs)))))
theorem wg{o value:Expr}{f:Str}{pos pos':Pos}{ta tv:TE}(ha:PE X o ta)(hv:PE X value tv)(hs:swapsWith value (some (.Attribute o f pos')) pos.line X.env=pure false:=by rfl):PS X (.Assign [.Attribute o f pos'] value pos) (D1 X.K ta tv f):=by
 intro pins s σ H D I h;refine plainObj_wpAny_Assign_Attribute (thn (hv pins s σ H _ I h) fun u s1 hPz=>L2.ep3 hPz fun y H1 I1 ry q=>thn (ha pins s1 σ H1 _ I1 q) fun ov s2 hPz=>?_) hs;obtain⟨x,H2,I2,rx,a,C,ex,F,alt⟩:=hPz;subst ex;obtain rfl:ov=Value.ref a:=rx;rcases alt with⟨hx,q⟩|⟨dx,fs,hx,hd,hlen,q⟩
 ·obtain⟨t0,ht0⟩:=(I2.hok a _ hx).1;refine PySem.W.uW I2.kIn ht0 rfl rfl rfl F.st F.pl F.tk fun h' keep e' n t'=>?_;have hm:(s2.heap.update a fun o=>{o with dict:=some s2.heap.objs.size}).get? a=some {cls:=.ref C,dict:=some s2.heap.objs.size,data:=.fields #[.ref t0,.none,.none,.none,.bool false,.none]}:=GF _ ht0 rfl;have J1:=I2.write (h':=s2.heap.update a fun o=>{o with dict:=some s2.heap.objs.size}) (x:=a) (e:=a) (o:=XO a C (some s2.heap.objs.size)) (t':=t') (by rw[hx];trivial) (.inl rfl) (fun b u' ne e=>by rw[GL _ _ (GR ne)];exact e) ⟨_,hm⟩ (yo ⟨_,hm⟩);have hf:=I2.hok.fresh (Fv s2.heap.objs.size);have J2:=J1.laid (h':=h') (a:=s2.heap.objs.size) (o:=XD s2.heap.objs.size [(f,y)]) (t':=t') (fun b u' e=>?_) (by show(s2.heap.update a _).objs.size<=_;rw[Heap.size_update];exact Fv _) (BW n (qy (fs:=[]) (fun g=>trivial) ry) (PySem.Within.cons f u PySem.Within.nil))
  ·exact⟨σ,_,J2,q _ hf (fun z=>by rw[z,hx]at hf;cases hf)⟩
  ·by_cases hb:b=a
   ·subst hb;have e2:=hm.symm.trans e;cases e2;exact e'
   ·refine keep b u' hb ?_;have e2:(s2.heap.update a fun o=>{o with dict:=some s2.heap.objs.size}).get? b=some u':=e;rw[GL _ _ (GR hb)]at e2;exact e2
 ·obtain⟨t0,ht0⟩:=(I2.hok a _ hx).1;obtain⟨mA,n0,r0,w0⟩:=(I2.hok dx _ hd).1;refine PySem.W.xr I2.kIn ht0 rfl rfl rfl n0 F.st F.pl F.tk w0 (by rw[Fm];exact aD (by lia)) fun h' keep n t'=>?_;have J:=I2.write (x:=dx) (e:=dx) (o:=XD dx ((f,y)::fs)) (t':=t') (by rw[hd];trivial) (.inl rfl) (fun b u ne e=>by rw[keep b ne];exact e) (by obtain⟨o,es,ep,e,_⟩:=n;exact⟨o,e⟩) (BW n ?_ ?_)
  ·exact⟨σ,_,J,q⟩
  ·exact qy r0 ry
  ·exact PySem.Within.cons f u w0
structure RdX(K:Frag)(C:Addr)(f:Str):Prop where
 pl:PySem.W.jg K C=true
 ga:findIn K (.ref C) "__getattribute__"=some (some (.builtin "BaseException.__getattribute__"))
 gt:findIn K (.ref C) "__getattr__"=some none
 na:findIn K (.ref C) f=some none
end
end L2
namespace L2
open PySem PySem.Spec PyProof.Rows LM
structure fP(mg:Str->Option Value)(x:Str)(C:Addr):Prop where
 mg:mg x=some (.ref C)
theorem pF{mg:Str->Option Value}{x:Str}{C:Addr}(Z:fP mg x C):yg mg x=.ref C:=by unfold yg;rw[Z.mg];rfl
def Ct(C:Addr)(f g:Str):Sp:=fun vs H Q _=>∃x tv v u,vs=[.ref x,tv,v,u]/\H x=some (XO x C none)/\∀dx,H dx=none->dx≠x->Q .non (upd (upd H x (XO x C (some dx))) dx (XD dx [(g,u),(f,v)]))
section
variable{P:Program}{w:World}{K:Frag}{mg:Str->Option Value}{base:Heap}
structure TxX(K:Frag)(mg:Str->Option Value)(c:Str)(C:Addr)(st:Stmt)(ps:List Str)(qual:Str):Prop where
 ex:∃f fd,Ar K mg c C f/\Fun K "__init__" qual st f fd/\Binds K fd ps []
structure DfX(P:Program)(w:World)(K:Frag)(mg:Str->Option Value)(base:Heap)(k:Nat)(c:Str)(C:Addr)(ps:List Str)(sp:Sp):Prop where
 ex:∃f fd,Ar K mg c C f/\gK P w K mg base CX0 k f fd ps sp/\Binds K fd ps []
theorem TxX.df{c qual:Str}{C:Addr}{st:Stmt}{N ps:List Str}{k:Nat}{sp:Sp}(T:TxX K mg c C st ps qual)(S:aB N ps (ao st))(len:∀vs H Q E,sp vs H Q E->vs.length=ps.length)
  (hbody:∀(f:Addr)(cdv:Value)(A:Around)(outer:List Env)(s:Shared)(H:Hp)(vs:List V)(Q:VK)(E:XK),Ar K mg c C f->cA k (A.deeper (envOfC qual (ao st) s.heap.objs.size f cdv))->sp vs H Q E->
   ∃t,PSs (gN CX0 P w K mg base N qual (ao st) f cdv A outer s H E).nox (bA st) t/\t {nx:=fun _ H'=>Q .non H',rt:=Q} (start N vs) H):DfX P w K mg base (k+1) c C ps sp:=by
 obtain⟨f,fd,M,F,b⟩:=T.ex;exact⟨f,fd,M,F.ok S len fun cdv A outer s H vs Q E hr h=>hbody f cdv A outer s H vs Q E M hr h,b⟩
theorem Cj{h:Heap}{c qual:Str}{C f:Addr}{st:Stmt}{ps:List Str}{oc:Value}{od an:Option Addr}{osl:Array (Option Value)}{kV doc pm cdv ct:Value}(X:K.In h)(G:h.Ns mainGlobals mg)
  (a:nsIn K mainGlobals c=some (some (.ref C))) (fi:findIn K (.ref C) "__init__"=some (some (.ref f))) (fn:PySem.W.isFn K (.ref f)=true) (kp:keepIn K (.ref C)=true)
  (l:K.lookup f=some ⟨oc,od,.func (fnOf "__init__" qual (cF st) (bA st) (ao st) .none kV doc pm an cdv ct),osl⟩)
  (cd:codeIn K cdv qual=true) (k:keepIn K (.ref f)=true) (ok:PySem.W.jv K C PySem.W.vErr4 "ValueError.__new__" f=true)
  (hb:∀(kV doc pm:Value)(an:Option Addr)(cdv ct:Value)(us:List Value),us.length=ps.length->bindArgs (fnOf "__init__" qual (cF st) (bA st) (ao st) .none kV doc pm an cdv ct) ⟨us,[]⟩=pure (ps.zip us)):TxX K mg c C st ps qual:=
 ⟨f,_,⟨PySem.W.mg_of X G a,ok,fn,kp⟩,ph l cd k,(ph l cd k).binds hb⟩
theorem BF{h:Heap}{c:Str}{L:Addr}(X:K.In h)(G:h.Ns mainGlobals mg)(a:nsIn K mainGlobals c=some (some (.ref L)))(rd:PySem.W.readsIn K L (.type "type")=true)
 (sp:PySem.W.specialIn K (.ref L) "__getattribute__"=some (some (.builtin "type.__getattribute__"))) (fc:PySem.W.findCls K (.ref L) (.type "type") "__init__"=some (.val (.builtin "ValueError.__init__"))):BU K mg c L:=⟨PySem.W.mg_of X G a,rd,sp,fc⟩
theorem fG{h:Heap}{c:Str}{C:Addr}(X:K.In h)(G:h.Ns mainGlobals mg)(a:nsIn K mainGlobals c=some (some (.ref C))):fP mg c C:=⟨PySem.W.mg_of X G a⟩
end
section
variable{X:Cx}
theorem oJ{j k:Nat}{c:Str}{C:Addr}{ps:List Str}{sp:Sp}{np pos:Pos}{e:Expr}{es:List Expr}{t:TA}(D:DfX X.prog X.w X.K X.mg X.base j c C ps sp)(hr:cA k X.A)(ha:PA X (e::es) t)(hg:Gl X c:=by rfl)(hj:j+1<=k:=by decide)(hex:X.ex=[]:=by rfl)
  (hdb:(c==("__debug__":Str))=false:=by decide) (he:starEach (e::es) X.env=(false,eval e X.env)::starEach es X.env:=by rfl) (hpl:(backTo pos (starEach es X.env)).any (·.1)=false:=by rfl):
  PE X (.Call (.Name c np) (e::es) [] pos) (yK C sp E0 t):=by
 obtain⟨f,fd,M,F,b⟩:=D.ex;exact A8 M F (hr.mono hj) b tZ ha hg hex hdb he hpl
end
end L2
namespace L2
open PySem
noncomputable def iO(s:Stmt):List Stmt:=match s with
 | .ClassDef _ _ _ b _ _ _ _ _ _ _=>b
 |_=>[]
end L2
namespace L2
theorem AA{H:Hp}{x dx:PySem.Addr}{o u:HO}(ne:dx≠x):upd (upd H x o) dx u x=some o:=by rw[au (GR ne),ae]
theorem fP.uniq{mg:PySem.Str->Option PySem.Value}{x:PySem.Str}{C C':PySem.Addr}(h:fP mg x C)(h':fP mg x C'):C=C':=PySem.Value.ref.inj (F0 (h.mg.symm.trans h'.mg))
end L2
namespace L2
open PySem PySem.Spec PyProof.Rows LM
def D9(K:Frag):List V->Hp->VK->Prop:=fun xs H Q=>D7 K xs H Q\/D8 K xs H Q
theorem jI{X:Cx}:fh X (.builtin "isinstance") (D9 X.K):=by
 intro pins s σ H xs us Q I r h;rcases h with h|h
 ·exact pH pins s σ H xs us Q I r h
 ·exact Ac pins s σ H xs us Q I r h
theorem Tx.dfF{P:Program}{w:World}{K:Frag}{mg:Str->Option Value}{base:Heap}{x:Str}{st:Stmt}{ps:List Str}{k:Nat}{sp:Sp}(T:Tx K mg x st ps)(h:∀vs H Q E,¬sp vs H Q E):Df P w K mg base k x ps sp:=by obtain⟨f,fd,F,b,hm⟩:=T.ex;exact⟨f,fd,⟨fun vs H Q E z=>absurd z (h vs H Q E),fun A outer s H args us vs Q E _ _ _ _ z=>absurd z (h vs H Q E)⟩,b,hm,F.kp⟩
mutual
inductive Pln:PyData->Prop
 |non:Pln .none
 |int (i:Int):Pln (.int i)
 |str (x:Str):Pln (.str x)
 |tup {ds:List PyData}:ds.length<=1000->uK ds->Pln (.tuple ds)
inductive uK:List PyData->Prop
 |nil:uK []
 |cons {d:PyData} {ds:List PyData}:Pln d->uK ds->uK (d::ds)
end
theorem d5.len{K:Frag}{H:Hp}:∀{ds:List PyData}{vs:List V},d5 K H ds vs->vs.length=ds.length
 |_,_,.nil=>rfl
 |_,_,.cons _ h=>by rw[FV,FV,d5.len h]
theorem d5.at{K:Frag}{H:Hp}:∀{ds:List PyData}{vs:List V}{i:Nat}{v:V},d5 K H ds vs->vs[i]?=some v->∃d,ds[i]?=some d/\IsD K H d v
 |_,_,_,_,.nil,e=>by simp at e
 |_,_,0,_,.cons a _,e=>by simp at e;subst e;exact⟨_,rfl,a⟩
 |_,_,i+1,_,.cons _ h,e=>by rw[G8]at e;obtain⟨d,hd,h'⟩:=d5.at h e;exact⟨d,by rw[G8];exact hd,h'⟩
theorem uK.at:∀{ds:List PyData}{i:Nat}{d:PyData},uK ds->ds[i]?=some d->Pln d
 |_,_,_,.nil,e=>by simp at e
 |_,0,_,.cons a _,e=>by simp at e;subst e;exact a
 |_,i+1,_,.cons _ h,e=>by rw[G8]at e;exact uK.at h e
theorem Dq{ds:List PyData}{i:Nat}{d:PyData}(e:ds[i]?=some d):d.depth<=PyData.depthAll ds:=by
 induction ds generalizing i with
 |nil=>simp at e
 |cons c ds ih=>
  show d.depth<=max c.depth (PyData.depthAll ds);cases i with
  |zero=>simp at e;subst e;lia
  |succ i=>
   rw[G8]at e;have:=ih e
   lia
def spA(K:Frag)(m:Nat):Sp:=fun vs H Q _=>∃(v u:V)(d:PyData),vs=[v,u]/\IsD K H d v/\IsD K H d u/\Pln d/\d.depth<m/\Q (.bl true) H
end L2
namespace L2
open PySem PySem.Spec PyProof.Rows
noncomputable def qF(f:Int×Int):Rat:=(f.1:Rat) / (f.2:Rat)
theorem sX{b:Int}(h:0<b):(b:Rat)≠0:=fun z=>by
 have:b=0:=Rat.intCast_inj.mp z
 lia
theorem E6{f g:Int×Int}(hf:0<f.2)(hg:0<g.2):qF f=qF g<->f.1*g.2=g.1*f.2:=by
 have a:=sX hf;have b:=sX hg;unfold qF;constructor
 ·intro e;apply Rat.intCast_inj.mp;rw[Rat.intCast_mul,Rat.intCast_mul];grind
 ·intro e;have:(f.1:Rat)*(g.2:Rat)=(g.1:Rat)*(f.2:Rat):=by rw[<-Rat.intCast_mul,<-Rat.intCast_mul,e]
  grind
theorem Cz{t b:Int}(h:0<b):qF (Dl t b)=(t:Rat) / (b:Rat):=by
 have:=(E6 (f:=Dl t b) (g:=(t,b)) (BA t h).pos h).mpr (by
  show frT t b*b=t*frB t b
  rw[zL,Int.mul_comm])
 exact this
noncomputable def tH(S:Sh):Rat:=(S.map fun p=>qF p.2).sum
theorem yH:tH []=0:=rfl
theorem fm(p:Str×Int×Int)(S:Sh):tH (p::S)=qF p.2+tH S:=by unfold tH;rw[FG,List.sum_cons]
theorem xn{S T:Sh}(h:S.Perm T):tH S=tH T:=by
 induction h with
 |nil=>rfl
 |cons p _ ih=>rw[fm,fm,ih]
 |swap p q l=>rw[fm,fm,fm,fm];grind
 |trans _ _ a b=>exact a.trans b
structure GS(ss:List Str)(S:Sh):Prop where
 nd:(S.map (·.1)).Nodup
 so:sortedS (S.map (·.1))=true
 ok:∀p∈S,DC p.2/\0<p.2.1
 fin:∀p∈S,¬FIN<p.2.2
 tot:tH S=1
 nm:∀p∈S,p.1∈ss
theorem B7:∀{l m:List Str},l.Nodup->(∀x∈l,x∈m)->l.length<=m.length
 | [],m,_,_=>F1 _
 |x::l,m,nd,h=>by
  rw[Gv]at nd;have hx:=h x (Fw ..);have ih:=B7 (l:=l) (m:=m.erase x) nd.2 fun y hy=>(List.mem_erase_of_ne (fun z:y=x=>nd.1 (by rw[<-z];exact hy))).mpr (h y (Ft _ hy));have:=List.length_erase_of_mem hx;have:0<m.length:=List.length_pos_of_mem hx;rw[FV]
  lia
theorem qz:∀(l:List Str)(p:Str),(p::l).Pairwise leS->risingS p l=true
 | [],p,_=>rfl
 |q::l,p,h=>by rw[List.pairwise_cons]at h;have ih:=qz l q h.2;have e:=h.1 q (Fw ..);unfold leS at e;unfold risingS;simp[e,ih]
theorem xC{l:List Str}(h:l.Pairwise leS):sortedS l=true:=by
 cases l with
 |nil=>rfl
 |cons p l=>exact qz l p h
section
variable{ss:List Str}{S:Sh}
theorem GS.names(h:GS ss S):∀x∈S.map (·.1),x∈ss:=fun x hx=>by obtain⟨p,hp,rfl⟩:=Fp.mp hx;exact h.nm p hp
theorem GS.len(h:GS ss S):S.length<=ss.length:=by have:=B7 h.nd h.names;rwa[Fm]at this
end
theorem Paired.rev{α β:Type}{R:α->β->Prop}{xs:List α}{ys:List β}(hI:Paired R xs ys):Paired R xs.reverse ys.reverse:=by
 induction hI with
 |nil=>exact .nil
 |cons a b ih=>rw[List.reverse_cons,List.reverse_cons];exact Paired.app (ih) (.cons a .nil)
end L2
namespace LT
open PySem PySem.Spec PyProof.Rows L2
noncomputable abbrev AN:=List (Addr×Str)
noncomputable def nameAt(zs:AN)(a:Addr):Str:=((zs.find? fun z=>decide (z.1=a)).map (·.2)).getD (Str.ofString "")
noncomputable def bl(x y:Str):Bool:=strKind.blt x.cps.toList y.cps.toList
noncomputable def rank(zs:AN)(x:Str):Nat:=(zs.filter fun z=>bl z.2 x).length
def BR(zs:AN):Prop:=∀z∈zs,∀y∈zs,z.1=y.1->z.2=y.2
theorem mJ{zs:AN}(h:BR zs){z:Addr×Str}(hz:z∈zs):nameAt zs z.1=z.2:=by
 unfold nameAt;cases e:zs.find? fun y=>decide (y.1=z.1)with
 |none=>exact absurd (G7.mp e z hz) (by simp)
 |some y=>
  have e1:y.1=z.1:=by have:=List.find?_some e;simpa using this
  exact h y (List.mem_of_find?_eq_some e) z hz e1
theorem Ak(x:Str):bl x x=false:=strKind.irrefl _
theorem Ai{x y z:Str}(a:bl x y=true)(b:bl y z=true):bl x z=true:=strKind.trans _ _ _ a b
theorem Aj{x y:Str}(a:bl x y=false)(b:bl y x=false):x=y:=AK (strKind.total _ _ a b)
theorem filter_le{α:Type}{p q:α->Bool}:∀{l:List α},(∀x∈l,p x=true->q x=true)->(l.filter p).length<=(l.filter q).length
 | [],_=>Fv _
 |x::l,h=>by
  have ih:=filter_le (l:=l) fun y hy=>h y (Ft _ hy);have hx:=h x (Fw ..);rw[List.filter_cons,List.filter_cons];cases e:p x with
  |true=>rw[FH rfl,FH (hx e),FV,FV];lia
  |false=>
   rw[FA (by simp)];split
   ·rw[FV];lia
   ·exact ih
theorem filter_lt{α:Type}{p q:α->Bool}:∀{l:List α}{y:α},(∀x∈l,p x=true->q x=true)->y∈l->p y=false->q y=true->(l.filter p).length<(l.filter q).length
 |x::l,y,h,hy,h1,h2=>by
  have ht:∀z∈l,p z=true->q z=true:=fun z hz=>h z (Ft _ hz);rw[List.filter_cons,List.filter_cons];rcases FL.mp hy with e|e
  ·subst e;have:=filter_le ht;rw[FA (by simp[h1]),FH h2,FV]
   lia
  ·have ih:=filter_lt ht e h1 h2;have hx:=h x (Fw ..);cases e':p x with
   |true=>rw[FH rfl,FH (hx e'),FV,FV];lia
   |false=>
    rw[FA (by simp)];split
    ·rw[FV];lia
    ·exact ih
theorem rA{zs:AN}{z:Addr×Str}(hz:z∈zs){y:Str}(h:bl z.2 y=true):rank zs z.2<rank zs y:=
 filter_lt (fun _ _ e=>Ai e h) hz (Ak _) h
theorem yT{zs:AN}{z y:Addr×Str}(hz:z∈zs)(hy:y∈zs):decide ((rank zs z.2:Int)<rank zs y.2)=bl z.2 y.2:=by
 cases e:bl z.2 y.2 with
 |true=>exact FQ (by have:=rA hz e;omega)
 |false=>
  refine FY fun w=>?_;cases e2:bl y.2 z.2 with
  |true=>have:=rA hy e2;omega
  |false=>rw[Aj e e2]at w;lia
noncomputable abbrev C0(zs:AN):KN where
 kn:=fun p=>match p.1 with| .ref a=>(rank zs (nameAt zs a):Nat)|_=>0
 isK:=fun p=>∃z∈zs,p=(.ref z.1,.ref z.1)
 kd:=tuples' true
def vS(h:Heap)(a:Addr)(x:Str):Prop:=∃o its n t,h.get? a=some o/\o.cls=.type "tuple"/\o.data=.seq its n/\its[0]?=some (.str x t)
section
variable{prog:Program}{w:World}{A:Around}{E:Value->Shared->Prop}{s:Shared}
theorem xV(b:Bool)(x y:Value):keyLt' (tuples' b) x y=(do
 let xs <-Builtin.List.listItems x;let ys <-Builtin.List.listItems y
 for ((p,q),i)in(xs.toList.zip ys.toList).zipIdx do
  if !(<-eqBool p q)then return <-oneLt' (b&&i==0) p q
 return xs.size<ys.size):=rfl
theorem uC{v:Value}{Q:Bool->Shared->Prop}(hv:(v==v)=true)(q:Q true s):wpAny (model prog w) A (eqBool v v) Q E s:=by unfold eqBool;refine Gx ?_;rw[hv];exact Fl (wpAny_rule (Fo q))
noncomputable def Dw(b:Bool):(Value×Value)×Nat->Option Bool×Unit->Sem (ForInStep (Option Bool×Unit)):=fun x _=>match x with
 |((p,q),i)=>do
  if !(<-eqBool p q)then
   let r <-oneLt' (b&&i==0) p q
   pure (ForInStep.done (some r,()))
  else pure (ForInStep.yield (none,()))
theorem vy(b:Bool)(x y:Value):keyLt' (tuples' b) x y=(do
  let xs <-Builtin.List.listItems x;let ys <-Builtin.List.listItems y;let r <-forIn ((xs.toList.zip ys.toList).zipIdx) (none,()) (Dw b)
  match r.1 with
  |some r=>pure r
  |none=>pure (decide (xs.size<ys.size))):=by
 rw[xV]
 have e:(fun(x:(Value×Value)×Nat) (_:Option Bool×Unit)=>(match x with
  |((p,q),i)=>do
   let d <-eqBool p q
   if(!d)=true then do
     let r <-oneLt' (b&&i==0) p q
     pure (ForInStep.done (some r,()))
    else pure (ForInStep.yield (none,())):Sem (ForInStep (Option Bool×Unit))))=Dw b:=by
  funext x u;obtain⟨⟨p,q⟩,i⟩:=x;rfl
 rw[<-e];refine congrArg _ (funext fun xs=>congrArg _ (funext fun ys=>congrArg _ (funext fun z=>?_)));obtain⟨z1,z2⟩:=z;cases z1<;>rfl
theorem qx{R:Option Bool×Unit->Shared->Prop}{b:Bool}(q:R (none,()) s):∀(l:List Value)(k:Nat),(∀v∈l,(v==v)=true)->wpAny (model prog w) A (forIn ((l.zip l).zipIdx k) (none,()) (Dw b)) R E s
 | [],k,_=>Fo q
 |v::l,k,h=>by rw[List.zip_cons_cons,List.zipIdx_cons,List.forIn_cons];refine Fl (Fl (uC (h v (Fw ..)) (Fo ?_)));exact qx q l (k+1) fun u hu=>h u (Ft _ hu)
theorem CU{a b:Addr}{x y:Str}{Q:Bool->Shared->Prop}(ha:vS s.heap a x)(hb:vS s.heap b y)(self:∀v:Value,(v==v)=true)(same:x=y->a=b)(q:Q (bl x y) s):wpAny (model prog w) A (keyLt' (tuples' true) (.ref a) (.ref b)) Q E s:=by
 obtain⟨o,its,n,t,e1,e2,e3,e4⟩:=ha;obtain⟨o',its',n',t',f1,f2,f3,f4⟩:=hb;rw[vy];refine Fl (listItems_at e1 e3 (Fl (listItems_at f1 f3 (Fl ?_))));by_cases e:x=y
 ·obtain rfl:=same e;rw[e1]at f1;cases f1;rw[e3]at f3;cases f3;refine qx ?_ _ 0 fun v _=>self v;have:bl x y=false:=by rw[e];exact Ak _
  rw[this]at q;refine Fo ?_;rw[FY (G3 _)];exact q
 ·obtain⟨r,er⟩:∃r,its.toList=.str x t::r:=by
   rw[<-GW]at e4;cases h:its.toList with
   |nil=>rw[h]at e4;cases e4
   |cons v r=>rw[h]at e4;cases e4;exact⟨r,rfl⟩
  obtain⟨r',er'⟩:∃r',its'.toList=.str y t'::r':=by
   rw[<-GW]at f4;cases h:its'.toList with
   |nil=>rw[h]at f4;cases f4
   |cons v r=>rw[h]at f4;cases f4;exact⟨r,rfl⟩
  rw[er,er',List.zip_cons_cons,List.zipIdx_cons,List.forIn_cons];refine Fl (Fl (wpAny_eqBool_str ?_));rw[FY e];exact Fl (oneLt_str (Fo (Fo (Fo q))))
theorem zo{zs:AN}(hz:∀z∈zs,vS s.heap z.1 z.2)(nd:(zs.map (·.2)).Nodup)(one:BR zs)(self:∀v:Value,(v==v)=true): @uL prog w A E s (C0 zs):=by
 letI:=C0 zs;refine⟨fun {st x y Q} hk hx hy h=>?_⟩;obtain⟨z,mz,rfl⟩:=hx;obtain⟨y,my,rfl⟩:=hy;rw[lt'_eq];refine Gd (wpS_get ?_);rw[hk];refine Gd (wpS_lift (wpAny_attempt (CU (hz z mz) (hz y my) self (fun e=>?_) ⟨rfl,?_⟩)))
 ·have key:∀(l:AN),(l.map (·.2)).Nodup->z∈l->y∈l->z.2=y.2->z=y:=by
   intro l
   induction l with
   |nil=>intro _ h;cases h
   |cons r l ih=>
    intro nd h1 h2 e;rw[FG,Gv]at nd;rcases FL.mp h1 with a|a
    ·rcases FL.mp h2 with b|b
     ·rw[a,b]
     ·exact absurd (GZ (f:=(·.2)) b) (by rw[<-e,a];exact nd.1)
    ·rcases FL.mp h2 with b|b
     ·exact absurd (GZ (f:=(·.2)) a) (by rw[e,b];exact nd.1)
     ·exact ih nd.2 a b e
  rw[key zs nd mz my e]
 ·refine GO ?_;have e1:KN.kn (.ref z.1,.ref z.1)=(rank zs z.2:Int):=by show((rank zs (nameAt zs z.1):Nat):Int)=_;rw[mJ one mz]
  have e2:KN.kn (.ref y.1,.ref y.1)=(rank zs y.2:Int):=by show((rank zs (nameAt zs y.1):Nat):Int)=_;rw[mJ one my]
  rw[e1,e2,yT mz my]at h;exact h
end
theorem tT{α β:Type}{f:α->β}:∀{zs:List α}{l:List β},l.Perm (zs.map f)->∃ys:List α,ys.Perm zs/\l=ys.map f:=by
 intro zs l h;generalize hm:zs.map f=m at h
 induction h generalizing zs with
 |nil=>rw[List.map_eq_nil_iff]at hm;subst hm;exact⟨[],.nil,rfl⟩
 |cons x _ ih=>obtain⟨z,zs',rfl,rfl,rfl⟩:=List.map_eq_cons_iff.mp hm;obtain⟨ys,h1,h2⟩:=ih rfl;exact⟨z::ys,h1.cons z,by rw[FG,h2]⟩
 |swap x y l=>obtain⟨z,zs',rfl,rfl,h2⟩:=List.map_eq_cons_iff.mp hm;obtain⟨z2,zs2,rfl,rfl,rfl⟩:=List.map_eq_cons_iff.mp h2;exact⟨z2::z::zs2,.swap z z2 zs2,rfl⟩
 |trans _ _ ih1 ih2=>obtain⟨ys,h1,rfl⟩:=ih2 hm;obtain⟨ws,h3,rfl⟩:=ih1 rfl;exact⟨ws,h3.trans h1,rfl⟩
section
variable{prog:Program}{w:World}{A:Around}{E:Value->Shared->Prop}{s:Shared}
theorem qU{M:Model}{α:Type}{f:Value->Sem α}{g:Value->α}:∀{vs:List Value}{Q:List α->Shared->Prop},(∀v∈vs,∀{R:α->Shared->Prop},R (g v) s->wpAny M A (f v) R E s)->Q (vs.map g) s->wpAny M A (vs.mapM f) Q E s
 | [],Q,_,q=>by rw[List.mapM_nil];exact Fo q
 |v::vs,Q,h,q=>by rw[List.mapM_cons];refine Fl (h v (Fw ..) (Fl (qU (g:=g) (fun u hu=>h u (Ft _ hu)) (Fo q))))
noncomputable def vals(zs:AN):List Value:=zs.map fun z=>.ref z.1
theorem firstT (v : Value) : firstOfTuple' v = (do if (← typeOf v) != .type "tuple" then return none
                                                   return (← Builtin.List.listItems v)[0]?) := rfl
theorem zv{zs:AN}(hz:∀z∈zs,vS s.heap z.1 z.2)(h2:zs≠[]){Q:SortKind->Shared->Prop}(q:Q (tuples' true) s):wpAny (model prog w) A (keyKind' (vals zs).toArray) Q E s:=by
 have key:∀v∈vals zs,∃x t,∀{R:Option Value->Shared->Prop},R (some (.str x t)) s->wpAny (model prog w) A (firstOfTuple' v) R E s:=fun v hv=>by obtain⟨z,mz,rfl⟩:=Fp.mp hv;obtain⟨o,its,n,t,e1,e2,e3,e4⟩:=hz z mz;refine⟨z.2,t,fun {R} r=>?_⟩;rw[firstT];refine Fl (wpAny_typeOf (T:="tuple") ⟨o,e1,e2⟩ ?_);rw[FA (by simp)];refine Fl (listItems_at e1 e3 (Fo ?_));rw[e4];exact r
 have gex:∀v:Value,∃u:Value,v∈vals zs->(∃x t,u=.str x t)/\∀{R:Option Value->Shared->Prop},R (some u) s->wpAny (model prog w) A (firstOfTuple' v) R E s:=fun v=>by
  by_cases hv:v∈vals zs
  ·obtain⟨x,t,h⟩:=key v hv;exact⟨.str x t,fun _=>⟨⟨x,t,rfl⟩,h⟩⟩
  ·exact⟨.none,fun z=>absurd z hv⟩
 let g:Value->Value:=fun v=>(gex v).choose;have hg:∀v∈vals zs,(∃x t,g v=.str x t)/\∀{R:Option Value->Shared->Prop},R (some (g v)) s->wpAny (model prog w) A (firstOfTuple' v) R E s:=fun v hv=>(gex v).choose_spec hv;rw[keyKind'_eq,List.mapM_toArray,<-bind_pure_comp];refine Fl (Fl (qU (g:=fun v=>some (g v)) (fun v hv {R} r=>(hg v hv).2 r) (Fo ?_)));have c1:((vals zs).map fun v=>some (g v)).toArray.all (·.isSome)=true:=by simp
 rw[FH c1];have e1:((vals zs).map fun v=>some (g v)).toArray.filterMap id=((vals zs).map g).toArray:=by simp[List.filterMap_toArray,List.filterMap_map]
 refine Fl (wpAny_rule ?_);rw[e1,oneTypeOnly'_eq,List.mapM_toArray,<-bind_pure_comp];refine Fl (Fl (Fl (qU (f:=typeOf) (g:=fun _=>Value.type "str") (fun v hv {R} r=>?_) (Fo ?_))))
 ·obtain⟨u,hu,rfl⟩:=Fp.mp hv;obtain⟨x,t,e⟩:=(hg u hu).1;rw[e];exact wpAny_typeOf (typeIs_str s x t) r
 ·have hl:(((vals zs).map g).map fun _=>Value.type "str").toArray[0]?=some (Value.type "str"):=by
   cases zs with
   |nil=>exact absurd rfl h2
   |cons z zs=>simp[vals]
  rw[hl];have ha:(((vals zs).map g).map fun _=>Value.type "str").toArray.all (·==Value.type "str")=true:=by simp only[List.all_toArray,List.all_map,List.all_eq_true];intro _ _;rfl
  refine Fo ?_;rw[ha];exact Fo q
end
end LT
namespace L2
open PySem PySem.Spec PyProof.Rows LM
noncomputable def nmO(p a:Int)(k:Nat):Str:=if p=0 then rq (Str.ofString "q") ((k:Int)+1).toNat else Txt.slice (Str.ofString "landa") none (some a)++⟨#[112+k]⟩++Txt.slice (Str.ofString "landa") (some (a+1)) none
noncomputable abbrev ik(w:Int)(k:Nat):Str:=nmO (w % 2) (w / 2 % 5) k
theorem wF:∀p∈[(0:Int),1],∀a∈[(0:Int),1,2,3,4],∀k∈List.range 6,(nmO p a k).length=(if p=0 then k+1 else 5)/\(nmO p a k).cps.all (fun c=>97<=c&&c<=122)=true/\∀j∈List.range 6,nmO p a k=nmO p a j->k=j:=by decide+kernel
theorem si{w:Int}{k:Nat}(hk:k<6):Fh (ik w k):=by
 have p:w % 2∈[(0:Int),1]:=by rcases (show w % 2=0\/w % 2=1 by lia)with e|e<;>rw[e]<;>decide
 have a:w / 2 % 5∈[(0:Int),1,2,3,4]:=by rcases (show w / 2 % 5=0\/w / 2 % 5=1\/w / 2 % 5=2\/w / 2 % 5=3\/w / 2 % 5=4 by lia)with e|e|e|e|e<;>rw[e]<;>decide
 obtain⟨h1,h2,_⟩:=wF _ p _ a k (F9.mpr hk);refine⟨fun c hc=>?_,?_,?_⟩
 ·have:=Array.all_eq_true'.mp h2 c (by simpa using hc);simpa using this
 ·show 1<=(nmO (w % 2) (w / 2 % 5) k).length;rw[h1];split<;>lia
 ·show(nmO (w % 2) (w / 2 % 5) k).length<=8;rw[h1];split<;>lia
theorem zg{w:Int}{k j:Nat}(hk:k<6)(hj:j<6)(e:ik w k=ik w j):k=j:=by
 have p:w % 2∈[(0:Int),1]:=by rcases (show w % 2=0\/w % 2=1 by lia)with e|e<;>rw[e]<;>decide
 have a:w / 2 % 5∈[(0:Int),1,2,3,4]:=by rcases (show w / 2 % 5=0\/w / 2 % 5=1\/w / 2 % 5=2\/w / 2 % 5=3\/w / 2 % 5=4 by lia)with e|e|e|e|e<;>rw[e]<;>decide
 exact(wF _ p _ a k (F9.mpr hk)).2.2 j (F9.mpr hj) e
def HdE(K:Frag)(H:Hp)(v:V)(g:Nat):Prop:=∃r rest,v=.ref r/\SqT K H r (.int (g:Nat)::rest)
noncomputable def cS:List V->List Nat->Nat->V
 |x::xs,g::gs,c=>if g.testBit c=true then x else cS xs gs c
 |_,_,_=>.non
theorem iI{xs:List V}{gs:List Nat}{c i:Nat}{x:V}{g:Nat}(e1:xs[i]?=some x)(e2:gs[i]?=some g):cS (xs.drop i) (gs.drop i) c=if g.testBit c=true then x else cS (xs.drop (i+1)) (gs.drop (i+1)) c:=by rw[iK e1,iK e2];rfl
end L2
namespace L2
open PySem PySem.W
theorem ah{X:Cx}{body:List Stmt}{Z:TS->Prop}(n:Nat){u:TS}(r:PSs X (body.drop n) u)(k:let R:=u;PSs X (body.drop n) R->∃t,PSs X body t/\Z t):∃t,PSs X body t/\Z t:=k r
theorem aN{X:Cx}{body:List Stmt}{Z:TS->Prop}(k:let Y:=X;∃t,PSs Y body t/\Z t):∃t,PSs X body t/\Z t:=k
theorem El{P:List Value->Prop}(h:∀a0,P [a0])(us:List Value)(hl:us.length=1):P us:=by
 cases us with
 |nil=>cases hl
 |cons a0 us=>exact(show P (a0::us)from by cases us with|nil=>exact h a0|cons b us=>cases hl)
theorem CY{P:List Value->Prop}(h:∀a0 a1,P [a0,a1])(us:List Value)(hl:us.length=2):P us:=by
 cases us with
 |nil=>cases hl
 |cons a0 us=>exact El (P:=fun us=>P (a0::us)) (h a0) us (F5 hl)
theorem Ek{P:List Value->Prop}(h:∀a0 a1 a2,P [a0,a1,a2])(us:List Value)(hl:us.length=3):P us:=by
 cases us with
 |nil=>cases hl
 |cons a0 us=>exact CY (P:=fun us=>P (a0::us)) (h a0) us (F5 hl)
theorem CW{P:List Value->Prop}(h:∀a0 a1 a2 a3,P [a0,a1,a2,a3])(us:List Value)(hl:us.length=4):P us:=by
 cases us with
 |nil=>cases hl
 |cons a0 us=>exact Ek (P:=fun us=>P (a0::us)) (h a0) us (F5 hl)
theorem xT{P:List Value->Prop}(h:∀a0 a1 a2 a3 a4,P [a0,a1,a2,a3,a4])(us:List Value)(hl:us.length=5):P us:=by
 cases us with
 |nil=>cases hl
 |cons a0 us=>exact CW (P:=fun us=>P (a0::us)) (h a0) us (F5 hl)
theorem CV{P:List Value->Prop}(h:∀a0 a1 a2 a3 a4 a5,P [a0,a1,a2,a3,a4,a5])(us:List Value)(hl:us.length=6):P us:=by
 cases us with
 |nil=>cases hl
 |cons a0 us=>exact xT (P:=fun us=>P (a0::us)) (h a0) us (F5 hl)
theorem Ej{P:List Value->Prop}(h:∀a0 a1 a2 a3 a4 a5 a6,P [a0,a1,a2,a3,a4,a5,a6])(us:List Value)(hl:us.length=7):P us:=by
 cases us with
 |nil=>cases hl
 |cons a0 us=>exact CV (P:=fun us=>P (a0::us)) (h a0) us (F5 hl)
end L2
namespace L2
open PySem PySem.Spec PyProof.Rows
section
variable{X:Cx}{tg:Expr}
def ES(P:Program)(w:World)(K:Frag)(neg:Bool)(ty td:TE):TE:=fun σ H Q=>ty σ H fun y H1=>td σ H1 fun x H2=>∃d o T b c,x=.ref d/\mm P w K H2 d o T/\y=.ref b/\bJ K H2 b c/\Q (.bl (if neg then !(atT T c).isSome else(atT T c).isSome)) H2
theorem xF{i o:Expr}{td ty:TE}(hu:X.A.units+64<cLine)(hi:PE X i ty)(ho:PE X o td):PC X .NotIn i o (ES X.prog X.w X.K true ty td):=by
 intro pins s σ H Q I h;refine thn (hi pins s σ H _ I h) fun iv s1 hPz=>L2.ep3 hPz fun y H1 I1 ry q1=>thn (ho pins s1 σ H1 _ I1 q1) fun u s2 hPz=>?_;obtain⟨x,H2,I2,rx,d,ob,T,b,c,ex,hc,ey,hb,q2⟩:=hPz;subst ex ey;cases rx;cases ry;obtain⟨h1,h2,h3,h4⟩:=hc;obtain⟨vs,rv,DD⟩:=h2.dict I2 h1 h4;refine wpAny_notIn_heap (show X.A.in1.units+3<cLine by simp only[Around.in1_units];omega) (hb.is I2) h3 DD ?_;have e:(atKey vs c).isSome=(atT T c).isSome:=by rcases Aa (c:=c) rv with⟨z1,z2⟩|⟨v',p,z1,z2,_⟩<;>rw[z1,z2]<;>rfl
 rw[e];exact⟨.bl _,H2,I2.tok _,rfl,q2⟩
end
noncomputable abbrev wSh(L:Ws):Sh:=L.map fun p=>(p.1,frT p.2 (hX L),frB p.2 (hX L))
theorem v7{t:Int}(ht:0<t):∀L:Ws,tH (L.map fun p=>(p.1,frT p.2 t,frB p.2 t))=(((L.map (·.2)).sum:Int):Rat) / (t:Rat)
 | []=>by rw[List.map_nil,yH];show(0:Rat)=((0:Int):Rat) / _;grind
 |p::L=>by rw[FG,fm,v7 ht L,FG,List.sum_cons,Rat.intCast_add];have e:qF (frT p.2 t,frB p.2 t)=(p.2:Rat) / (t:Rat):=Cz ht;show qF (frT p.2 t,frB p.2 t)+_=_;rw[e];grind
theorem Er{ss:List Str}{S:Sh}{L:Ws}(nd:(L.map (·.1)).Nodup)(pos:∀p∈L,0<p.2)(hL:0<hX L)(hf:hX L<=FIN)(pm:S.Perm (wSh L))(so:(S.map (·.1)).Pairwise leS)(nm:∀p∈L,p.1∈ss):GS ss S:=by
 have e1:(wSh L).map (·.1)=L.map (·.1):=by rw[GB];rfl
 have mem:∀p∈S,∃q∈L,p=(q.1,frT q.2 (hX L),frB q.2 (hX L)):=fun p hp=>by obtain⟨q,hq,e⟩:=Fp.mp (pm.mem_iff.mp hp);exact⟨q,hq,e.symm⟩
 refine⟨?_,xC so,fun p hp=>?_,fun p hp=>?_,?_,fun p hp=>?_⟩
 ·have:=pm.map (·.1);rw[e1]at this;exact this.nodup_iff.mpr nd
 ·obtain⟨q,hq,rfl⟩:=mem p hp;exact⟨wN _ hL,Bz (pos q hq) hL⟩
 ·obtain⟨q,hq,rfl⟩:=mem p hp;show ¬FIN<frB q.2 (hX L);have h1:frB q.2 (hX L)<=hX L:=by
   have g:=jt (t:=q.2) hL;have e:frB q.2 (hX L)*((Int.gcd q.2 (hX L):Nat):Int)=hX L:=By q.2 (hX L);have p0:=wO (t:=q.2) hL;have:=Int.mul_le_mul_of_nonneg_left (a:=1) (b:=((Int.gcd q.2 (hX L):Nat):Int)) (c:=frB q.2 (hX L)) (by lia) (by lia)
   lia
  lia
 ·rw[xn pm,v7 hL];show((hX L:Int):Rat) / ((hX L:Int):Rat)=1;have:=sX hL;grind
 ·obtain⟨q,hq,rfl⟩:=mem p hp;exact nm q hq
theorem BD{x:V}{r:List V}:gO (x::r) (some 1) none=r:=by
 unfold gO;rw[HT.oE,show HT.sIx (x::r).length 0 (some 1)=min 1 (x::r).length from HT.iD _ _ 1];have:min 1 (x::r).length=1:=by rw[FV];lia
 rw[this];simp
theorem oj:∀{ws:List Int},(∀x∈ws,1<=x/\x<=9)->0<=ws.sum/\ws.sum<=9*ws.length
 | [],_=>by simp
 |x::ws,h=>by
  have a:=h x (Fw ..);have b:=oj fun y hy=>h y (Ft _ hy);rw[List.sum_cons,FV]
  lia
theorem tJ:∀{ws:List Int},(∀x∈ws,0<x)->ws≠[]->0<ws.sum
 | [x],h,_=>by have:=h x (by simp);simpa using this
 |x::y::ws,h,_=>by
  have a:=h x (Fw ..);have b:=tJ (ws:=y::ws) (fun z hz=>h z (Ft _ hz)) (by simp);rw[List.sum_cons]
  lia
theorem uT{K:Frag}{H:Hp}{vs:List V}{S0:Sh}(pr:Paired (ShE K H) vs S0):∃zs:LT.AN,vs=zs.map (fun z=>V.ref z.1)/\zs.map (·.2)=S0.map (·.1)/\(∀z∈zs,∃r,SqT K H z.1 (.str z.2::r))/\
  ∀ys:LT.AN,ys.Perm zs->∃S:Sh,S.Perm S0/\Paired (ShE K H) (ys.map fun z=>V.ref z.1) S/\S.map (·.1)=ys.map (·.2):=by
 obtain⟨zs,e,h⟩:∃zs:LT.AN,vs=zs.map (fun z=>V.ref z.1)/\Paired (fun(z:Addr×Str) (p:Str×Int×Int)=>z.2=p.1/\ShE K H (.ref z.1) p) zs S0:=by
  induction pr with
  |nil=>exact⟨[],rfl,.nil⟩
  | @cons v p _ _ a _ ih=>obtain⟨zs,e,h⟩:=ih;obtain⟨r,q,rfl,h1,h2⟩:=id a;exact⟨(r,p.1)::zs,by rw[FG,e],.cons ⟨rfl,a⟩ h⟩
 have nm:∀{zs:LT.AN}{S:Sh},Paired (fun(z:Addr×Str) (p:Str×Int×Int)=>z.2=p.1/\ShE K H (.ref z.1) p) zs S->zs.map (·.2)=S.map (·.1):=by
  intro zs S h
  induction h with
  |nil=>rfl
  |cons a _ ih=>rw[FG,FG,a.1,ih]
 have sh:∀{zs:LT.AN}{S:Sh},Paired (fun(z:Addr×Str) (p:Str×Int×Int)=>z.2=p.1/\ShE K H (.ref z.1) p) zs S->Paired (ShE K H) (zs.map fun z=>V.ref z.1) S:=by
  intro zs S h
  induction h with
  |nil=>exact .nil
  |cons a _ ih=>exact .cons a.2 ih
 refine⟨zs,e,nm h,fun z hz=>?_,fun ys py=>?_⟩
 ·obtain⟨p,_,e1,r,q,e2,h1,_⟩:=j6 h hz;cases e2;rw[e1];exact⟨_,h1⟩
 ·obtain⟨S,h1,h2⟩:=rL py.symm h;exact⟨S,h1,sh h2,(nm h2).symm⟩
noncomputable def wsN(w:Int)(f:Nat)(ws:List Int)(n:Nat):Ws:=(List.range n).map fun k=>(ik w ((f+k) % 6),ws.getD k 0)
theorem yz{w:Int}{f:Nat}{ws:List Int}{n:Nat}(hn:n<=6):((wsN w f ws n).map (·.1)).Nodup:=by unfold wsN;rw[GB];show((List.range n).map fun k=>ik w ((f+k) % 6)).Nodup;rw[List.nodup_iff_pairwise_ne,GI];refine List.Pairwise.imp_of_mem ?_ (List.nodup_iff_pairwise_ne.mp (List.nodup_range));intro a b ha hb ne e;have ha:=F9.mp ha;have hb:=F9.mp hb;have:=zg (Nat.mod_lt _ (by decide)) (Nat.mod_lt _ (by decide)) e;omega
theorem vW{w:Int}{f:Nat}{ws:List Int}:hX (wsN w f ws ws.length)=ws.sum:=by
 unfold hX wsN;rw[GB];congr 1;apply List.ext_getElem?;intro k;rw[FO];by_cases h:k<ws.length
 ·rw[List.getElem?_range h];simp[h]
 ·rw[List.getElem?_eq_none (by simpa using h),List.getElem?_eq_none (by lia)];rfl
theorem vX{w:Int}{f:Nat}{ws:List Int}(h:∀x∈ws,0<x):∀p∈wsN w f ws ws.length,0<p.2/\p.1∈(List.range 6).map (ik w):=by intro p hp;obtain⟨k,hk,rfl⟩:=Fp.mp hp;have hk:=F9.mp hk;refine⟨h _ ?_,Fp.mpr ⟨(f+k) % 6,F9.mpr (Nat.mod_lt _ (by decide)),rfl⟩⟩;rw[List.getD_eq_getElem?_getD,Fy hk];exact List.getElem_mem hk
end L2
namespace L2
open PySem PySem.Spec PyProof.Rows
theorem kx{g:Nat->Option Col}{m:Nat}:∀{c:Nat},m<=c->(∀j,m<=j->j<c->g j=none)->bq g c=bq g m/\∀x,msk g c x=msk g m x
 | 0,hm,_=>by
  obtain rfl:m=0:=by lia
  exact⟨rfl,fun _=>rfl⟩
 |c+1,hm,h=>by
  by_cases e:m=c+1
  ·subst e;exact⟨rfl,fun _=>rfl⟩
  ·have ih:=kx (c:=c) (by lia) fun j h1 h2=>h j h1 (by lia);have hn:=h c (by omega) (by omega);refine⟨by rw[iL hn];exact ih.1,fun x=>?_⟩;rw[<-ih.2 x];show(if g c=some x then _ else _)=_;rw[FA (by rw[hn];exact fun z=>nomatch z)]
def PlI(T:CT)(D:List (Col×Nat)):Prop:=Paired (fun(t:Col×Addr×V) (p:Col×Nat)=>t.1=p.1/\t.2.2=.int (p.2:Nat)) T D
theorem PlI.at{c:Col}{T:CT}{D:List (Col×Nat)}(hI:PlI T D):atT T c=(D.find? fun p=>decide (p.1=c)).map fun p=>V.int (p.2:Nat):=by
 induction hI with
 |nil=>exact rfl
 | @cons t p _ _ a b ih=>
  have ih:=ih;by_cases h:t.1=c
  ·have h':p.1=c:=a.1.symm.trans h;simp[atT,F6,h,h',a.2]
  ·have h':¬p.1=c:=fun z=>h (a.1.trans z);simpa[atT,F6,h,h']using ih
theorem uB{c:Col}:∀{D:List Col}{n j:Nat},D.Nodup->D[j]?=some c->(D.zipIdx n).find? (fun p=>decide (p.1=c))=some (c,n+j)
 | [],_,_,_,e=>by cases e
 |x::D,n,0,_,e=>by cases e;simp[List.zipIdx_cons,F6]
 |x::D,n,j+1,nd,e=>by
  rw[Gv]at nd;have ne:¬x=c:=fun z=>nd.1 (by rw[z];exact Fs e);rw[List.zipIdx_cons,F6];simp only[ne,decide_false];rw[uB (n:=n+1) (j:=j) nd.2 (by simpa using e)];congr 2
  lia
theorem yb{c:Col}{D:List Col}(h:¬c∈D)(n:Nat):(D.zipIdx n).find? (fun p=>decide (p.1=c))=none:=by rw[G7];intro p hp z;have z':=F7 z;exact h (by rw[<-z'];exact List.fst_mem_of_mem_zipIdx hp)
structure MsG(P:Program)(w:World)(K:Frag)(H0 H:Hp)(l1 dp:Addr)(D:List Col)(f:Col->Nat)(as:List Addr)(o:Obj)(T:CT):Prop where
 sm:ak H0 H
 n1:H0 l1=none
 n2:H0 dp=none
 na:∀a∈as,H0 a=none
 hl:H l1=some (.lst (as.map V.ref))
 nl:¬l1∈as
 nd:as.Nodup
 pr:Paired (fun(a:Addr) (c:Col)=>∃b,H a=some (.lst [.int (f c:Nat),.ref b])/\bJ K H b c) as D
 co:mm P w K H dp o T
 pl:PlI T D.zipIdx
variable{P:Program}{w:World}{K:Frag}{H0 H:Hp}{l1 dp:Addr}{D:List Col}{f:Col->Nat}{as:List Addr}{o:Obj}{T:CT}
theorem Paired.memR{α β:Type}{R S:α->β->Prop}{as:List α}{bs:List β}(h:Paired R as bs)(k:∀a b,a∈as->b∈bs->R a b->S a b):Paired S as bs:=by
 induction h with
 |nil=>exact .nil
 |cons a _ ih=>exact .cons (k _ _ (Fw ..) (Fw ..) a) (ih fun x y hx hy=>k x y (Ft _ hx) (Ft _ hy))
theorem MsG.len(h:MsG P w K H0 H l1 dp D f as o T):as.length=D.length:=Fx h.pr
theorem MsG.tlen(h:MsG P w K H0 H l1 dp D f as o T):T.length=D.length:=by have:=Fx h.pl;rw[this,List.length_zipIdx]
theorem MsG.place(h:MsG P w K H0 H l1 dp D f as o T)(nd:D.Nodup){c:Col}{j:Nat}(e:D[j]?=some c):atT T c=some (.int (j:Nat)):=by rw[h.pl.at,uB nd e,G4];rfl
theorem MsG.noplace(h:MsG P w K H0 H l1 dp D f as o T){c:Col}(e:¬c∈D):atT T c=none:=by rw[h.pl.at,yb e];rfl
theorem MsG.congr{f':Col->Nat}(h:MsG P w K H0 H l1 dp D f as o T)(e:∀c,f c=f' c):MsG P w K H0 H l1 dp D f' as o T:=by obtain rfl:f=f':=funext e;exact h
theorem MsG.new(h:MsG P w K H0 H l1 dp D f as o T){c:Col}{b a5:Addr}{o':Obj}(hc:¬c∈D)(f0:f c=0)(hb:bJ K H b c)(ho:tF P w o' (jZ T c b (.int (as.length:Nat))))(h5:(upd H dp (fT dp o')) a5=none):
  MsG P w K H0 (upd (upd (upd H dp (fT dp o')) a5 (.lst [.int 0,.ref b])) l1 (.lst (as.map V.ref++[.ref a5]))) l1 dp (D++[c]) f (as++[a5]) o' (jZ T c b (.int (as.length:Nat))):=by
 have c1:=h.co.1;have d1:l1≠dp:=gU h.hl c1 (fun z=>nomatch z);have t1:TK H (upd H dp (fT dp o')):=TK.obj c1;have a5d:a5≠dp:=fun z=>by rw[z,ae]at h5;cases h5
 have h5':H a5=none:=by rw[<-h5,au a5d]
 have a5l:a5≠l1:=fun z=>by rw[z,h.hl]at h5';cases h5'
 have a5a:∀a∈as,a≠a5:=fun a ha z=>by obtain⟨c',_,b',e,_⟩:=j6 h.pr ha;rw[z,h5']at e;cases e
 have ad:∀a∈as,a≠dp:=fun a ha=>by obtain⟨c',_,b',e,_⟩:=j6 h.pr ha;exact gU e c1 (fun z=>nomatch z)
 have t2:TK (upd H dp (fT dp o')) (upd (upd H dp (fT dp o')) a5 (.lst [.int 0,.ref b])):=(ak.upd h5).tk;have hl2:(upd (upd H dp (fT dp o')) a5 (.lst [.int 0,.ref b])) l1=some (.lst (as.map V.ref)):=by rw[au a5l.symm,au d1];exact h.hl
 have t3:=TK.lst (o:=.lst (as.map V.ref++[.ref a5])) hl2;have pe:jZ T c b (.int (as.length:Nat))=T++[(c,b,.int (as.length:Nat))]:=by
  unfold jZ;rw[FA];intro z;have e0:=h.noplace hc;unfold atT at e0;cases e:T.find? fun t=>decide (t.1=c)with
  |none=>rw[G7]at e;obtain⟨t,ht,zt⟩:=List.any_eq_true.mp z;exact e t ht zt
  |some t=>rw[e]at e0;cases e0
 have n5:H0 a5=none:=h.sm.free h5';refine⟨fun a u e=>?_,h.n1,h.n2,fun a ha=>?_,?_,fun z=>?_,?_,?_,⟨?_,ho,h.co.2.2.1,?_⟩,?_⟩
 ·rw[au (fun z=>by rw[z,h.n1]at e;cases e),au (fun z=>by rw[z,n5]at e;cases e),au (fun z=>by rw[z,h.n2]at e;cases e)];exact h.sm a u e
 ·rcases FC.mp ha with z|z
  ·exact h.na a z
  ·rw[Fq.mp z];exact n5
 ·rw[ae,FN];rfl
 ·rcases FC.mp z with y|y
  ·exact h.nl y
  ·exact a5l (Fq.mp y).symm
 ·rw[GY];exact⟨h.nd,by simp,fun a ha b hb z=>a5a a ha (by rw[z,Fq.mp hb])⟩
 ·refine Paired.app (Paired.memR h.pr fun a c' ha _ ⟨b',e,z⟩=>⟨b',?_,((z.tk t1).tk t2).tk t3⟩) (.cons ⟨b,?_,((hb.tk t1).tk t2).tk t3⟩ .nil)
  ·rw[au (fun z=>h.nl (by rw[<-z];exact ha)),au (a5a a ha),au (ad a ha)];exact e
  ·rw[au a5l,ae,f0];rfl
 ·rw[au d1.symm,au a5d.symm,ae]
 ·rw[pe];intro t ht;rcases FC.mp ht with z|z
  ·exact(((h.co.2.2.2 t z).tk t1).tk t2).tk t3
  ·rw[Fq.mp z];exact((hb.tk t1).tk t2).tk t3
 ·rw[pe,List.zipIdx_append];refine Paired.app h.pl (.cons ⟨rfl,?_⟩ .nil);show V.int _=V.int _;rw[h.len];simp
theorem MsG.bump(h:MsG P w K H0 H l1 dp D f as o T)(ndD:D.Nodup){c:Col}{j x:Nat}{a b:Addr}(e:D[j]?=some c)(ea:as[j]?=some a)(ha:H a=some (.lst [.int (f c:Nat),.ref b]))(hb:bJ K H b c):
  MsG P w K H0 (upd H a (.lst [.int (x:Nat),.ref b])) l1 dp D (fun y=>if y=c then x else f y) as o T:=by
 have ma:a∈as:=Fs ea;have t1:=TK.lst (o:=.lst [.int (x:Nat),.ref b]) ha;have al:l1≠a:=fun z=>h.nl (by rw[z];exact ma);have ad:dp≠a:=gU h.co.1 ha (fun z=>nomatch z);refine⟨fun a' u e'=>?_,h.n1,h.n2,h.na,?_,h.nl,h.nd,?_,⟨?_,h.co.2.1,h.co.2.2.1,fun t ht=>(h.co.2.2.2 t ht).tk t1⟩,h.pl⟩
 ·rw[au (fun z=>by rw[z,h.na a ma]at e';cases e')];exact h.sm a' u e'
 ·rw[au al];exact h.hl
 ·have key:∀{as:List Addr}{D:List Col}{j:Nat},Paired (fun(a:Addr) (c:Col)=>∃b,H a=some (.lst [.int (f c:Nat),.ref b])/\bJ K H b c) as D->as.Nodup->D.Nodup->D[j]?=some c->as[j]?=some a->
    Paired (fun(a':Addr) (c':Col)=>∃b',(upd H a (.lst [.int (x:Nat),.ref b])) a'=some (.lst [.int ((if c'=c then x else f c':Nat):Nat),.ref b'])/\bJ K (upd H a (.lst [.int (x:Nat),.ref b])) b' c') as D:=by
   intro as D j p
   induction p generalizing j with
   |nil=>intro _ _ e _;cases e
   | @cons a0 c0 as D r p ih=>
    intro n1 n2 e1 e2;rw[Gv]at n1 n2;cases j with
    |zero=>cases e1;cases e2;refine .cons ⟨b,by rw[ae,FH rfl],hb.tk t1⟩ (Paired.memR p fun a' c' ha' hc' ⟨b',e3,z⟩=>⟨b',?_,z.tk t1⟩);rw[au (fun z=>n1.1 (by rw[<-z];exact ha')),FA (fun z=>n2.1 (by rw[<-z];exact hc'))];exact e3
    |succ j=>have e1':D[j]?=some c:=(by simpa using e1);have e2':as[j]?=some a:=(by simpa using e2);refine .cons ?_ (ih n1.2 n2.2 e1' e2');obtain⟨b',e3,z⟩:=r;have nc:¬c0=c:=fun z=>n2.1 (by rw[z];exact Fs e1');have na:a0≠a:=fun z=>n1.1 (by rw[z];exact Fs e2');exact⟨b',by rw[au na,FA nc];exact e3,z.tk t1⟩
  exact key h.pr h.nd ndD e ea
 ·rw[au ad];exact h.co.1
theorem MsG.same{H':Hp}(h:MsG P w K H0 H l1 dp D f as o T)(s:ak H H'):MsG P w K H0 H' l1 dp D f as o T:=
 ⟨h.sm.trans s,h.n1,h.n2,h.na,s _ _ h.hl,h.nl,h.nd,Paired.imp (fun _ _ ⟨b,e,z⟩=>⟨b,s _ _ e,z.tk s.tk⟩) h.pr,⟨s _ _ h.co.1,h.co.2.1,h.co.2.2.1,fun t ht=>(h.co.2.2.2 t ht).tk s.tk⟩,h.pl⟩
theorem wc{cs:List Nat}(h:cs.Pairwise (·<·)){i c:Nat}(e:cs[i]?=some c)(t:Nat):t∈cs.take i<->t∈cs/\t<c:=by
 obtain⟨hi,e'⟩:=FD.mp e;rw[List.pairwise_iff_getElem]at h;constructor
 ·intro ht;obtain⟨k,hk,rfl⟩:=G0 ht;rw[FK]at hk;rw[List.getElem_take];exact⟨List.getElem_mem _,by rw[<-e'];exact h k i (by lia) hi (by lia)⟩
 ·rintro⟨ht,lt⟩;obtain⟨k,hk,rfl⟩:=G0 ht;have ki:k<i:=Gn fun z=>by
   by_cases q:k=i
   ·subst q;lia
   ·have:=h i k hi hk (by lia)
    lia
  exact List.mem_take_iff_getElem.mpr ⟨k,by lia,rfl⟩
theorem yW{cs:List Nat}(h:cs.Pairwise (·<·)){i c:Nat}(e:cs[i]?=some c)(t:Nat):t∈cs.take (i+1)<->t∈cs/\t<c+1:=by
 rw[FJ,e,F2,FC,wc h e,Fq];constructor
 ·rintro(⟨a,b⟩|rfl)
  ·exact⟨a,by omega⟩
  ·exact⟨Fs e,by omega⟩
 ·rintro⟨a,b⟩;by_cases z:t=c
  ·exact .inr z
  ·exact .inl ⟨a,by lia⟩
theorem mV(g:Nat->Option Col):∀i,(bq g i).length<=i
 | 0=>F1 _
 |i+1=>by
  have ih:=mV g i;cases e:g i with
  |none=>rw[iL e];lia
  |some c=>
   by_cases h:c∈bq g i
   ·rw[lX e h];omega
   ·rw[jF e h,Fz,GC];lia
end L2
namespace L2
open PySem PySem.Spec PyProof.Rows LM
theorem Cd(a b:Nat):∃r:Nat,Builtin.bitXor (a:Int) (b:Int)=(r:Nat):=by
 refine⟨(a|||b)-(a&&& b),?_⟩;show Builtin.bitOr (a:Int) b-Builtin.bitAnd (a:Int) b=_;rw[My.qP,My.kC];have h1:a&&& b<=a:=Nat.and_le_left;have h2:a<=a|||b:=Nat.left_le_or
 lia
structure Plt where
 g:Nat
 S:Sh
 R:cf
 last:Int
def PlE(K:Frag)(H:Hp)(v:V)(p:Plt):Prop:=∃l ls lr,v=.ref l/\SqT K H l [.int (p.g:Nat),.ref ls,.ref lr,.int p.last]/\ShT K H ls p.S/\StrT K H lr p.R
theorem PlE.tk{K:Frag}{H H':Hp}{v:V}{p:Plt}(t:TK H H')(h:PlE K H v p):PlE K H' v p:=by obtain⟨l,ls,lr,e,h1,h2,h3⟩:=h;exact⟨l,ls,lr,e,t.sq h1,h2.tk t,h3.tk t⟩
structure vU(ss:List Str)(rs:List (List Key))(p:Plt):Prop where
 lt:p.g<2^64
 gs:GS ss p.S
 st:∃f,bj f p.R/\(∀i,i<64->((f i).isSome=true<->p.g.testBit i=true))/\∀i c,f i=some c->c.length<=12/\∀r∈c,r∈rs
noncomputable def plD(p:Plt):PyData:=.tuple [.int (p.g:Nat),shD p.S,tK p.R,.int p.last]
theorem PlE.isD{K:Frag}{H:Hp}{v:V}{p:Plt}(h:PlE K H v p):IsD K H (plD p) v:=by obtain⟨l,ls,lr,rfl,h1,h2,h3⟩:=h;exact .tup h1 (.cons (.int _) (.cons h2.isD (.cons h3.isD (.cons (.int _) .nil))))
theorem PlE.lay{K:Frag}{H:Hp}{v:V}{p:Plt}{ss:List Str}{rs:List (List Key)}(h:PlE K H v p)(o:vU ss rs p)(hs:∀x∈ss,PyData.canLay0 (.str x)=true):(plD p).canLay0=true:=by obtain⟨l,ls,lr,rfl,h1,h2,h3⟩:=h;have a:=CZ (S:=p.S) fun q hq=>hs _ (o.gs.nm q hq);have b:(tK p.R).canLay0=true:=uw h3.lay;show(PyData.canLay0 (.int (p.g:Nat))&&((shD p.S).canLay0&&((tK p.R).canLay0&&(PyData.canLay0 (.int p.last)&&true))))=true;rw[a,b];rfl
theorem sR(p:Plt):(plD p).depth<=6:=by
 have a:(shD p.S).depth<=4:=Nat.succ_le_succ (wX p.S);have b:=zV p.R;show max _ (max (shD p.S).depth (max (tK p.R).depth (max _ 0)))+1<=6;have c:∀i:Int,(PyData.int i).depth<=1:=fun _=>FF rfl;have c1:=c (p.g:Nat);have c2:=c p.last
 lia
theorem jy:∀{ds:List PyData},(∀d∈ds,Pln d)->uK ds
 | [],_=>.nil
 |d::ds,h=>.cons (h d (Fw ..)) (jy fun e he=>h e (Ft _ he))
theorem wt{S:Sh}(h:S.length<=1000):Pln (shD S):=.tup (by rw[Fm];exact h) (jy fun d hd=>by
 obtain⟨p,_,rfl⟩:=Fp.mp hd
 exact .tup (FF rfl) (.cons (.str _) (.cons (.tup (FF rfl) (.cons (.int _) (.cons (.int _) .nil))) .nil)))
theorem A3{r:List Key}(h:r.length<=1000):Pln (.tuple (r.map gE)):=.tup (by rw[Fm];exact h) (jy fun d hd=>by
 obtain⟨k,_,rfl⟩:=Fp.mp hd;cases k with
 |inl i=>exact .int i
 |inr x=>exact .str x)
theorem wx{c:Col}(h:c.length<=1000)(hr:∀r∈c,r.length<=1000):Pln (iw c):=.tup (by rw[Fm];exact h) (jy fun d hd=>by
 obtain⟨r,hr',rfl⟩:=Fp.mp hd
 exact A3 (hr r hr'))
theorem du.xT{r:List Key}(h:du r):r.length<=1000:=by obtain⟨_,_,_,_,_,rfl⟩:=h;show 5<=1000;decide
theorem vU.pln{ss:List Str}{rs:List (List Key)}{p:Plt}(o:vU ss rs p)(hs:ss.length<=1000)(hb:∀r∈rs,du r):Pln (plD p):=by
 obtain⟨f,h1,h2,h3⟩:=o.st;have a:Pln (shD p.S):=wt (FW o.gs.len hs)
 have b:Pln (tK p.R):=.tup (by rw[Fm];exact FW h1.len (by decide)) (jy fun d hd=>by
  obtain⟨q,hq,rfl⟩:=Fp.mp hd;obtain⟨q1,q0,qb⟩:=h1.ok q hq;have l1:bW q.1<64:=gB q1 (by decide) q0;have e:=(qb _ l1).mp (cE q1 q0).1;obtain⟨c1,c2⟩:=h3 _ _ e
  exact .tup (FF rfl) (.cons (.int _) (.cons (wx (by lia) fun r hr=>(hb r (c2 r hr)).xT) .nil)))
 exact .tup (FF rfl) (.cons (.int _) (.cons a (.cons b (.cons (.int _) .nil))))
def Dis(a b:Nat):Prop:=∀j,¬(a.testBit j=true/\b.testBit j=true)
theorem Dis.symm{a b:Nat}(h:Dis a b):Dis b a:=fun j z=>h j ⟨z.2,z.1⟩
theorem qB{w h r:Nat}{ps:List Nat}(a:iy w h r ps)(hr:r<2^64):(∀p∈ps,p≠0/\Sub p r)/\ps.Pairwise Dis:=by
 induction a with
 |nil=>exact⟨fun _ z=>(nomatch z),.nil⟩
 | @cons r p ps z cp _ ih=>
  obtain⟨i1,i2⟩:=ih (pq hr);refine⟨fun q hq=>?_,?_⟩
  ·rcases FL.mp hq with rfl|hq
   ·exact⟨(px hr z cp).1,fun j hj=>cp.sub hj⟩
   ·refine⟨(i1 q hq).1,fun j hj=>?_⟩;have:=(i1 q hq).2 j hj;rw[gX,Bool.and_eq_true]at this;exact this.1
  ·rw[List.pairwise_cons];refine⟨fun q hq j ⟨h1,h2⟩=>?_,i2⟩;have:=(i1 q hq).2 j h2;rw[gX,h1,Bool.not_true,Bool.and_false]at this;cases this
theorem yS(n c:Nat)(hc:c<2^n):2^n-1-c=dif (2^n-1) c:=by
 unfold dif;have:(2^n-1)&&& c=c:=by rw[Nat.and_comm,Nat.and_two_pow_sub_one_eq_mod,Nat.mod_eq_of_lt hc]
 rw[this]
theorem vO{w h c:Nat}{ps qs:List Nat}(hw:0<w)(hc:c<2^(w*h))(h64:w*h<=64)(a:iy w h c ps)(b:iy w h (dif (2^(w*h)-1) c) qs):
  (∀p∈ps++qs,p≠0/\p<2^(w*h))/\(ps++qs).Pairwise Dis/\(∀p∈ps++qs,∃r,r<2^(w*h)/\∀k,p.testBit k=true->cT w h r k p)/\ps.length<=64/\qs.length<=64:=by
 have le:2^(w*h)<=2^64:=Gf (by decide) h64;have pos:0<2^(w*h):=Nat.two_pow_pos _;have hd:dif (2^(w*h)-1) c<2^(w*h):=pq (by omega);obtain⟨a1,a2⟩:=qB a (FE hc le);obtain⟨b1,b2⟩:=qB b (FE hd le);have cl:∀r,gL w h r r:=fun r j i _ _ z=>z;have sb:∀r,LM.Sub r r:=fun r j z=>z;have ma:=(a.mem hw hc h64 (cl c) (sb c)).1;have mb:=(b.mem hw hd h64 (cl _) (sb _)).1;refine⟨fun p hp=>?_,?_,fun p hp=>?_,a.len (by decide) (FE hc le),b.len (by decide) (FE hd le)⟩
 ·rcases FC.mp hp with z|z
  ·exact⟨(a1 p z).1,kq fun j hj=>fS hc ((a1 p z).2 j hj)⟩
  ·exact⟨(b1 p z).1,kq fun j hj=>fS hd ((b1 p z).2 j hj)⟩
 ·rw[List.pairwise_append];refine⟨a2,b2,fun p hp q hq j ⟨h1,h2⟩=>?_⟩;have z1:=(a1 p hp).2 j h1;have z2:=(b1 q hq).2 j h2;rw[gX,z1,Bool.not_true,Bool.and_false]at z2;cases z2
 ·rcases FC.mp hp with z|z
  ·exact⟨c,hc,ma p z⟩
  ·exact⟨_,hd,mb p z⟩
structure pK(w h:Nat)(ss:List Str)(rs:List (List Key))(ps:List Plt):Prop where
 ok:∀p∈ps,vU ss rs p/\p.g≠0/\p.g<2^(w*h)/\1<=p.last/\p.last<=1000000000
 len:ps.length<=8
 ap:(ps.map (·.g)).Pairwise Dis
 one:∀p∈ps,∃r,r<2^(w*h)/\∀k,p.g.testBit k=true->cT w h r k p.g
 bur:∀r∈rs,du r
 r13:rs.length=13
theorem pK.rev{w h:Nat}{ss:List Str}{rs:List (List Key)}{ps:List Plt}(o:pK w h ss rs ps):pK w h ss rs ps.reverse:=by refine⟨fun p hp=>o.ok p (List.mem_reverse.mp hp),by rw[List.length_reverse];exact o.len,?_,fun p hp=>o.one p (List.mem_reverse.mp hp),o.bur,o.r13⟩;rw[List.map_reverse,List.pairwise_reverse];exact o.ap.imp fun z=>z.symm
theorem oG{K:Frag}{H:Hp}{xs:List V}{ps:List Plt}(hI:Paired (PlE K H) xs ps):d5 K H (ps.map plD) xs:=by
 induction hI with
 |nil=>exact .nil
 |cons a b ih=>exact .cons a.isD (ih)
theorem k8:∀{ps:List Plt},(∀p∈ps,(plD p).canLay0=true)->PyData.canLayAll0 (ps.map plD)=true
 | [],_=>rfl
 |p::ps,h=>by show((plD p).canLay0&&PyData.canLayAll0 (ps.map plD))=true;rw[h p (Fw ..),k8 fun q hq=>h q (Ft _ hq)];rfl
theorem wq:∀(ps:List Plt),PyData.depthAll (ps.map plD)<=6
 | []=>F1 _
 |p::ps=>by
  have a:=sR p;have b:=wq ps;show max (plD p).depth (PyData.depthAll (ps.map plD))<=6
  lia
theorem oH{K:Frag}{H:Hp}{xs:List V}{ps:List Plt}(hI:Paired (PlE K H) xs ps):Paired (HdE K H) xs (ps.map (·.g)):=by
 induction hI with
 |nil=>exact .nil
 |cons hI0 b ih=>obtain⟨l,_,_,e,h,_⟩:=hI0;exact .cons ⟨l,_,e,h⟩ (ih)
theorem Paired.right{α β:Type}{R:α->β->Prop}{as:List α}{bs:List β}(h:Paired R as bs){b:β}(hb:b∈bs):∃a∈as,R a b:=by
 induction h with
 |nil=>cases hb
 |cons x _ ih=>
  rcases FL.mp hb with e|e
  ·subst e;exact⟨_,Fw ..,x⟩
  ·obtain⟨a,h1,h2⟩:=ih e;exact⟨a,Ft _ h1,h2⟩
end L2
namespace L2
open PySem PySem.Spec PyProof.Rows
def DKp(h h':Heap):Prop:=∀b o,h.get? b=some o->∃o',h'.get? b=some o'/\o'.dict=o.dict
theorem DKp.refl(h:Heap):DKp h h:=fun _ o e=>⟨o,e,rfl⟩
theorem DKp.trans{h h1 h2:Heap}(a:DKp h h1)(b:DKp h1 h2):DKp h h2:=fun x o e=>by obtain⟨o1,e1,d1⟩:=a x o e;obtain⟨o2,e2,d2⟩:=b x o1 e1;exact⟨o2,e2,d2.trans d1⟩
theorem DKp.push(h:Heap)(o:Obj):DKp h (h.push o):=fun _ o' e=>⟨o',Fn _ e,rfl⟩
def DA(f:Obj->Obj):Prop:=∀o,(f o).dict=o.dict/\(f o).isFreed=o.isFreed
theorem DKp.update{f:Obj->Obj}(hf:DA f)(h:Heap)(a:Addr):DKp h (h.update a f):=fun b o e=>by
 by_cases z:a=b
 ·subst z;obtain⟨_,e2⟩:=Heap.get?_some_iff.mp e;exact⟨f o,GF f e (by rw[(hf o).2];exact e2),(hf o).1⟩
 ·exact⟨o,by rw[GL _ _ z];exact e,rfl⟩
inductive bH{α:Type}:Sem α->Prop
 |pure (a:α):bH (.pure a)
 |raise (e:Value):bH (.raise e)
 |unsup (w:String):bH (.unsupported w)
 |rule {t:String} {k:Unit->Sem α}:(∀u,bH (k u))->bH (.rule t k)
 |load {a:Addr} {p:Option Value} {k:Obj->Sem α}:(∀o,bH (k o))->bH (.load a p k)
 |update {a:Addr} {p:Option Value} {f:Obj->Obj} {k:Unit->Sem α}:DA f->(∀u,bH (k u))->bH (.update a p f k)
 |alloc {o:Obj} {k:Addr->Sem α}:(∀a,bH (k a))->bH (.alloc o k)
 |point {l:List Value} {k:Unit->Sem α}:(∀u,bH (k u))->bH (.point l k)
 |register {a:Addr} {k:Unit->Sem α}:bH (.register a k)
 |stack {k:List (Code×Pos)->Sem α}:(∀l,bH (k l))->bH (.stack k)
theorem bH.wp{α:Type}{M:Model}{Γ:PySem.Ctx}{t:Sem α}(m:bH t):∀{Q:α->Pos->Shared->Prop}{E:Value->Pos->Shared->Prop}{p:Pos}{s:Shared}{h0:Heap},DKp h0 s.heap->Sem.wp M Γ t Q E p s->
  Sem.wp M Γ t (fun a p' s'=>Q a p' s'/\DKp h0 s'.heap) (fun e p' s'=>E e p' s'/\DKp h0 s'.heap) p s:=by
 induction m with
 |pure a=>intro Q E p s h0 d h;exact⟨h,d⟩
 |raise e=>intro Q E p s h0 d h;exact⟨h,d⟩
 |unsup w=>intro Q E p s h0 d h;exact h
 |rule _ ih=>intro Q E p s h0 d h;exact ih () d h
 |load _ ih=>intro Q E p s h0 d h;obtain⟨o,ho,h⟩:=h;exact⟨o,ho,ih o d h⟩
 |update sf _ ih=>intro Q E p s h0 d h;obtain⟨ha,h⟩:=h;exact⟨ha,ih () (d.trans (DKp.update sf _ _)) h⟩
 |alloc _ ih=>intro Q E p s h0 d h;exact ih _ (d.trans (DKp.push _ _)) h
 |point _ ih=>intro Q E p s h0 d h;exact ih () d h
 |register=>intro Q E p s h0 d h;exact h
 |stack _ ih=>intro Q E p s h0 d h;exact ih _ d h
theorem bH.any{α:Type}{M:Model}{A:Around}{t:Sem α}{Q:α->Shared->Prop}{E:Value->Shared->Prop}{s:Shared}(m:bH t)(h:wpAny M A t Q E s):wpAny M A t (fun a s'=>Q a s'/\DKp s.heap s'.heap) (fun e s'=>E e s'/\DKp s.heap s'.heap) s:=
 fun Γ p hΓ=>m.wp (DKp.refl _) (h Γ p hΓ)
theorem bH.bind{α β:Type}{t:Sem α}{f:α->Sem β}(m:bH t)(h:∀a,bH (f a)):bH (t>>= f):=by
 show bH (Sem.bind t f)
 induction m with
 |pure a=>exact h a
 |raise e=>exact .raise e
 |unsup w=>exact .unsup w
 |rule _ ih=>exact .rule ih
 |load _ ih=>exact .load ih
 |update sf _ ih=>exact .update sf ih
 |alloc _ ih=>exact .alloc ih
 |point _ ih=>exact .point ih
 |register=>exact .register
 |stack _ ih=>exact .stack ih
theorem tM(f:Array Value->Array Value):DA (Obj.mapFields f):=fun o=>by obtain⟨c,d,dt,s⟩:=o;cases dt<;>exact⟨rfl,rfl⟩
theorem km (v : Value) (i : Nat) : bH (field v i) := by
  unfold field fieldsOf
  refine bH.bind ?_ fun vs => ?_
  · cases v <;> first
      | exact .unsup _
      | (refine bH.bind (.load fun o => .pure _) fun o => ?_
         split
         · exact .pure _
         · exact .unsup _)
  · split
    · exact .pure _
    · exact .unsup _
theorem jX (v : Value) (i : Nat) (x : Value) : bH (setField v i x) := by
  unfold setField updateField
  cases v <;> first
    | exact .unsup _
    | (refine bH.bind (.load fun o => .pure _) fun o => ?_
       split
       · split
         · exact .update (tM _) fun _ => .pure _
         · exact .unsup _
       · exact .unsup _)
theorem gz(v:Value)(f:Option Addr):bH (setFlight v f):=by
 unfold setFlight;refine bH.bind (km _ _) fun tb=>?_;split
 ·exact jX _ _ _
 ·exact .pure _
theorem oW(ty:String)(vs:List Value):bH (newFields ty vs):=by
 unfold newFields newObj newObjAsIs;dsimp only;split
 ·exact bH.bind (.unsup _) fun _=>bH.bind (.alloc fun a=>.pure _) fun a=>.pure _
 ·exact bH.bind (.alloc fun a=>.pure _) fun a=>.pure _
theorem kl:bH stack:=.stack fun l=>.pure _
theorem xR(a:Addr):bH (load a):=.load fun o=>.pure _
theorem ur(env:Env)(outer:List Env):bH (behindIsImport env outer):=by
 unfold behindIsImport
 repeat' first
  |exact .pure _
  |exact .unsup _
  |exact km _ _
  |split
  |refine bH.bind ?_ fun _=>?_
theorem uu:bH underTheClaimsCaller:=bH.bind kl fun _=>.pure _
theorem xS(env:Env)(b:Bool)(l:List Env):bH (keptBack env b l):=by
 unfold keptBack
 repeat' first
  |exact .pure _
  |exact .unsup _
  |exact uu
  |split
  |refine bH.bind ?_ fun _=>?_
theorem oV:∀l:List Env,bH (readyFrames l)
 | []=>.pure _
 |env::outer=>by
  have ih:=oV outer;unfold readyFrames
  repeat' first
   |exact .pure _
   |exact .unsup _
   |exact xR _
   |exact ur _ _
   |exact xS _ _ _
   |exact ih
   |exact .update (fun o=>⟨rfl,by obtain⟨c,d,dt,s⟩:=o;cases dt<;>rfl⟩) fun _=>.pure _
   |split
   |refine bH.bind ?_ fun _=>?_
   |dsimp only
theorem su(env:Env):bH (PySem.frameOf env):=by
 unfold PySem.frameOf frameEnvs;refine bH.bind (bH.bind kl fun _=>.pure _) fun l=>bH.bind ?_ fun r=>?_
 ·generalize List.dropWhile _ l=es;cases es with
  |nil=>exact .pure _
  |cons e es=>exact bH.bind (oV _) fun _=>.pure _
 ·split
  ·exact .pure _
  ·exact .unsup _
theorem vm(f:Addr)(b:Bool):bH (entryPlaceOf f b):=by
 unfold entryPlaceOf;refine bH.bind kl fun l=>?_;split
 ·exact .pure _
 ·exact .pure _
theorem qJ(v:Value)(env:Env):bH (noteFrame v env):=by
 unfold noteFrame EntryCells.newEntry
 repeat' first
  |exact .pure _
  |exact .unsup _
  |exact km _ _
  |exact jX _ _ _
  |exact su _
  |exact vm _ _
  |exact oW _ _
  |split
  |refine bH.bind ?_ fun _=>?_
  |dsimp only
theorem lF(env:Env)(v:Value):bH (leaving env v):=bH.bind (qJ _ _) fun _=>gz _ _
def tE(K:Frag)(C:Addr):Prop:=∃fI,PySem.W.jv K C PySem.W.vErr4 "ValueError.__new__" fI=true
theorem oa{K:Frag}{h:Heap}{C:Addr}(X:K.In h)(z:tE K C):
  ∃tl N nm qn bs hd sn sub ab col dd k0 k1 k2 k3 k5,h.get? C=some (excClassObj nm qn C N bs tl hd sn sub ab col dd k0 k1 k2 k3 k5 "ValueError.__new__")/\OwnTail h vErr tl/\∀b r,mroIn K C b=some r->(Value.ref C::tl).contains b=r:=by
 obtain⟨fI,z⟩:=z;obtain⟨tl,N,nm,qn,bs,hd,sn,sub,ab,col,dd,k0,k1,k2,k3,k5,mN,h1,_,_,h4,h5⟩:=PySem.W.ku X z;exact⟨tl,N,nm,qn,bs,hd,sn,sub,ab,col,dd,k0,k1,k2,k3,k5,h1,h4,h5⟩
def nP(h:Heap)(x:Addr)(od:Option Addr):Prop:=∃o,h.get? x=some o/\o.dict=od
theorem nP.kp{h h':Heap}{x:Addr}{od:Option Addr}(d:nP h x od)(k:DKp h h'):nP h' x od:=by obtain⟨o,e,ed⟩:=d;obtain⟨o',e',ed'⟩:=k x o e;exact⟨o',e',ed'.trans ed⟩
noncomputable def CXn(P:Program)(w:World):CXT:=fun outer H s E e s'=>∃x C T H' a0 od,e=.ref x/\s'.os=s.os/\AllBare s'.gens/\Un (frs outer) [] H H' s.heap s'.heap/\HOk P w H' s'.heap/\
 s.heap.get? x=none/\s.heap.get? T=none/\H' x=none/\H' T=none/\Trc s'.heap x T (.ref C) a0/\nP s'.heap x od/\E (.ref C) od H'
noncomputable def lU(H:Hp)(x:Addr):Hp:=fun b=>if b=x then none else H b
theorem lS(H:Hp)(x:Addr):lU H x x=none:=FH rfl
theorem fN{H:Hp}{x b:Addr}(h:b≠x):lU H x b=H b:=FA h
section
variable{X:Cx}{pins:List (Addr×Obj)}{σ:St}{H:Hp}{s:Shared}
theorem Inv.untrackO{x C:Addr}{d:Option Addr}(I:Inv X pins σ H s)(hx:H x=some (XO x C d)):Inv X pins σ (lU H x) s:=by
 have nt:∀b xs,H b=some (.tup xs)->b≠x:=fun b xs e z=>by rw[z,hx]at e;cases e
 have no:∀b y,H b=some (.own y)->b≠x:=fun b y e z=>by rw[z,hx]at e;cases e
 have dn:∀b,H b=none->lU H x b=none:=fun b e=>by
  unfold lU;split
  ·rfl
  ·exact e
 refine⟨I.ok,I.os,I.bare,⟨I.base.keep,I.base.slot,fun b o' e1 n hx'=>dn b (I.base.free b o' e1 n hx'),I.base.there,fun b xs e1=>?_,fun b o' u e1=>?_,fun b ps e1=>?_⟩,I.loc,I.cell,dn _ I.free,fun y c e1=>dn _ (I.freeC y c e1),fun p hp=>?_,fun b u e1=>?_,I.len⟩
 ·have q:=I.base.tups b xs e1;rw[fN (nt b _ q)];exact q
 ·have q:=I.base.frzs b o' u e1;rw[fN (fun z=>by rw[z,hx]at q;cases q)];exact q
 ·obtain⟨more,q⟩:=I.base.tbls b ps e1;exact⟨more,by rw[fN (fun z=>by rw[z,hx]at q;cases q)];exact q⟩
 ·obtain⟨a1,a2,a3⟩:=I.pin p hp;exact⟨a1,dn _ a2,a3⟩
 ·by_cases hb:b=x
  ·rw[hb,lS]at e1;cases e1
  ·rw[fN hb]at e1;refine(I.hok b u e1).stay (fun _ _ _ q=>q) (fun c q=>?_) fun c xs q=>?_
   ·rw[fN (no c _ q)];exact q
   ·rw[fN (nt c _ q)];exact q
theorem Inv.new{x:Addr}{o:HO}(I:Inv X pins σ H s)(hex:X.ex=[])(hx:H x=some o)(h0:X.H₀ x=none):X.s₀.heap.get? x=none:=by
 cases q:X.s₀.heap.get? x with
 |none=>rfl
 |some ob=>have:=I.base.free x ob q h0 (by rw[hex];simp);rw[hx]at this;cases this
end
section
variable{P:Program}{w:World}{K:Frag}{mg:Str->Option Value}{base:Heap}{N:List Str}{qual:Str}{scope:Scope}{f:Addr}{cd:Value}{A:Around}{outer:List Env}{s:Shared}{H:Hp}{E:XK}
 {pins:List (Addr×Obj)} {σ:St}
theorem Ce{x T C:Addr}{a0:Value}{od:Option Addr}{H2 H':Hp}{s2 s':Shared}(I2:Inv (gN (CXn P w) P w K mg base N qual scope f cd A outer s H E) pins σ H2 s2)(n1:s2.heap.get? x=none)(n2:s2.heap.get? T=none)
  (I:Inv (gN (CXn P w) P w K mg base N qual scope f cd A outer s H E) pins σ H' s') (t:Trc s'.heap x T (.ref C) a0) (u1:H' x=none) (u2:H' T=none) (dc:nP s'.heap x od) (e:E (.ref C) od H'):
  (gN (CXn P w) P w K mg base N qual scope f cd A outer s H E).xe (.ref x) s':=by
 obtain⟨p1,p2,p3,p4⟩:=I2.apart rfl n1;obtain⟨r1,r2,r3,r4⟩:=I2.apart rfl n2;refine F8 ((lF _ _).any (wpAny_leaves_onW (Q:=fun _ s4=>∃h',s4={s' with heap:=h'}/\Heap.FlyingW (PySem.W.hideAll s'.heap (frs (gN (CXn P w) P w K mg base N qual scope f cd A outer s H E).stack++[x,T])) outer x (.ref C) a0 h'/\s'.heap.UpToSlots h') (outer:=outer) I.ok.frames rfl (zO I t) fun h' fl us=>⟨h',rfl,fl,us⟩)) (fun _ s4 z=>?_) fun _ _ z=>z.1;obtain⟨⟨h',rfl,fl,us⟩,dk⟩:=z;have J:=I.landed (t':=s'.toks) p1 r1 u1 u2 p2 r2 p3 r3 p4 r4 fl.1 us
 obtain⟨T',t',q1,q2⟩:=oh I rfl rfl (as:=[x,T]) (fun b hb=>by
  rcases FL.mp hb with q|q
  ·subst q;exact⟨p1,u1⟩
  ·rw[Fq]at q;subst q;exact⟨r1,u2⟩) (fun b hb=>by obtain⟨_,o,ho,nf⟩:=J.stack.mem hb;exact⟨o,ho,nf⟩) fl.2.2.2
 exact⟨x,C,T',H',a0,od,rfl,J.os,J.bare,J.base,J.hok,p1,q1,u1,q2,t',dc.kp dk,e⟩
theorem k9{E':XK}(h:∀C o H,E' C o H->E C o H):Passes (CXn P w) (gN (CXn P w) P w K mg base N qual scope f cd A outer s H E) E':=by rintro pins σ H2 s2 e s' I2 ⟨x,C,T,H',a0,od,rfl,os,bare,un,hok,n1,n2,u1,u2,t,dc,ee⟩;exact Ce I2 n1 n2 (I2.call' (ch:=[]) os un hok bare (fun _ z=>nomatch z)) t u1 u2 dc (h _ _ _ ee)
theorem kG{x C:Addr}{od:Option Addr}{H1:Hp}{s1:Shared}(I:Inv (gN (CXn P w) P w K mg base N qual scope f cd A outer s H E) pins σ H1 s1)(hx:H1 x=some (XO x C od))(h0:H x=none)(ee:E (.ref C) od (lU H1 x)):
  (gN (CXn P w) P w K mg base N qual scope f cd A outer s H E).xe (.ref x) s1:=by
 obtain⟨t0,ht0⟩:=(I.hok x _ hx).1;have I1:=I.untrackO hx;have p1:s.heap.get? x=none:=I.new rfl hx h0;have p2:∀p∈(gN (CXn P w) P w K mg base N qual scope f cd A outer s H E).pn++pins,p.1≠x:=fun p hp z=>by have:=(I.pin p hp).2.1;rw[z,hx]at this;cases this
 have p3:∀y c,(gN (CXn P w) P w K mg base N qual scope f cd A outer s H E).env.cells.lookup y=some c->c≠x:=fun y c e z=>by have:=I.freeC y c e;rw[z,hx]at this;cases this
 have p4:x≠(gN (CXn P w) P w K mg base N qual scope f cd A outer s H E).env.locals:=fun z=>by have:=I.free;rw[<-z,hx]at this;cases this
 refine F8 ((lF _ _).any (wpAny_leaving_firstW (Q:=fun _ s4=>∃h',s4={s1 with heap:=h'}/\Heap.LeftW (PySem.W.hideAll s1.heap (frs (envOfC qual scope s.heap.objs.size f cd::outer)++[x])) (envOfC qual scope s.heap.objs.size f cd::outer) x (.ref C) (.ref t0) s1.heap h')
  (base:=PySem.W.hideAll s1.heap (frs (envOfC qual scope s.heap.objs.size f cd::outer)++[x])) (outer:=outer) I.ok.frames (PySem.W.funFrames_hide I.stack fun env he a ha=>FR _ (List.mem_filterMap.mpr ⟨env,he,ha⟩)) rfl ht0 (fun b o q=>PySem.W.of_hideAll _ q) (PySem.W.hideAll_none _ (by simp)) rfl rfl rfl fun h' hL=>⟨h',rfl,hL⟩)) (fun _ s4 z=>?_) fun _ _ z=>z.1
 obtain⟨⟨h',rfl,k1,k2,k3,k4⟩,dk⟩:=z
 have J:Inv (gN (CXn P w) P w K mg base N qual scope f cd A outer s H E) pins σ (lU H1 x) {s1 with heap:=h',toks:=s1.toks}:=I1.flown (ch:=[x]) (fun b hb=>by
   rw[Fq]at hb;subst hb;exact⟨p1,lS _ _,p4,p3,p2⟩)
  (fun b o hb hc e'=>k1 b o (PySem.W.hideAll_get _ e' fun z=>by
   rcases FC.mp z with q|q
   ·exact hb q
   ·exact hc q)) (fun b o hb e'=>by
  obtain⟨_,o',ho,hnf⟩:=I.stack.mem hb;rw[e']at ho;cases ho
  exact k4 b o e' hnf)
 obtain⟨T',t',q1,q2⟩:=oh I1 rfl rfl (as:=[x]) (fun b hb=>by rw[Fq]at hb;subst hb;exact⟨p1,lS _ _⟩) (fun b hb=>by obtain⟨_,o,ho,nf⟩:=J.stack.mem hb;exact⟨o,ho,nf⟩) k3;exact⟨x,C,T',lU H1 x,_,od,rfl,J.os,J.bare,J.base,J.hok,p1,q1,lS _ _,q2,t',nP.kp ⟨_,ht0,rfl⟩ dk,ee⟩
end
section
variable{M:Model}{A:Around}{E:Value->Shared->Prop}{env:Env}{s:Shared}
theorem u3{x:Sem Value}{Q:Flow->Shared->Prop}(hh:A.handled=none)
  (h:wpAny M A x (fun v s1=>∃e t d C tl N nm qn bs hd sn sub ab col dd k0 k1 k2 k3 k5,v=.ref e/\s1.heap.get? C=some (excClassObj nm qn C N bs tl hd sn sub ab col dd k0 k1 k2 k3 k5 "ValueError.__new__")/\tl.contains (.type "BaseException")=true/\
   s1.heap.get? e=some {cls:=.ref C,dict:=d,data:=.fields #[.ref t,.none,.none,.none,.bool false,.none]}/\E (.ref e) s1) E s):wpAny M A (raiseStmt env (some x) none) Q E s:=by
 unfold raiseStmt;refine Fl (F8 h (fun v s1 h1=>?_) fun _ _ z=>z);obtain⟨e,t,d,C,tl,N,nm,qn,bs,hd,sn,sub,ab,col,dd,k0,k1,k2,k3,k5,rfl,hC,hb,he,hE⟩:=h1;have hcB:(Value.ref C::tl).contains (.type "BaseException")=true:=by rw[List.contains_cons,hb,Bool.or_true]
 obtain⟨hp,g,dr,tk,os⟩:=s1
 repeat (first|with_reducible refine GU he ?_|with_reducible refine GU hC ?_|(with_reducible refine wpAny_isSubtype_exc hC ?_;rw[hcB])|wp_step)
 exact wpAny_raiseNew_none hh hE
end
section
variable{X:Cx}
def EH(K:Frag)(t:TE)(W:Addr->Value->Option Addr->Hp->Prop):TS:=fun _ σ H=>t σ H fun v H1=>∃x C od,v=.ref x/\H1 x=some (XO x C od)/\tE K C/\W x (.ref C) od H1
theorem ij{e:Expr}{t:TE}{pos:Pos}{W:Addr->Value->Option Addr->Hp->Prop}(hc:X.calm=true)(he:PE X e t)
  (hw:∀pins σ H1 s1 x C od,Inv X pins σ H1 s1->H1 x=some (XO x C od)->W x (.ref C) od H1->X.xe (.ref x) s1):PS X (.Raise (some e) none pos) (EH X.K t W):=by
 intro pins s σ H D I h;rw[arm_exec_Raise];refine Fl (wpAny_standAt (u3 (I.ok.hd hc) ?_));refine Fl (F8 (he pins s σ H _ I h) (fun v s1 z=>Fl (wpAny_standAt (Fo ?_))) fun _ _ z=>z);obtain⟨x,H1,I1,rv,a,C,od,rfl,hx,Z,q⟩:=z;cases rv;obtain⟨t0,ht0⟩:=(I1.hok a _ hx).1;obtain⟨tl,N,nm,qn,bs,hd,sn,sub,ab,col,dd,k0,k1,k2,k3,k5,hC,T,_⟩:=oa I1.kIn Z;exact⟨a,t0,od,C,tl,N,nm,qn,bs,hd,sn,sub,ab,col,dd,k0,k1,k2,k3,k5,rfl,hC,T.hasType rfl,ht0,hw pins σ H1 s1 a C od I1 hx q⟩
def RzW(H0:Hp)(E:XK):Addr->Value->Option Addr->Hp->Prop:=fun x cls od H1=>H0 x=none/\E cls od (lU H1 x)
structure DfN(P:Program)(w:World)(K:Frag)(mg:Str->Option Value)(base:Heap)(k:Nat)(x:Str)(ps:List Str)(sp:Sp):Prop where
 ex:∃f fd,gK P w K mg base (CXn P w) k f fd ps sp/\Binds K fd ps []/\mg x=some (.ref f)/\keepIn K (.ref f)=true
theorem Tx.dfN{P:Program}{w:World}{K:Frag}{mg:Str->Option Value}{base:Heap}{x:Str}{st:Stmt}{N ps:List Str}{k:Nat}{sp:Sp}(T:Tx K mg x st ps)(S:aB N ps (ao st))
  (len:∀vs H Q E,sp vs H Q E->vs.length=ps.length)
  (hbody:∀(f:Addr)(cdv:Value)(A:Around)(outer:List Env)(s:Shared)(H:Hp)(vs:List V)(Q:VK)(E:XK),cA k (A.deeper (envOfC x (ao st) s.heap.objs.size f cdv))->sp vs H Q E->
   ∃t,PSs (gN (CXn P w) P w K mg base N x (ao st) f cdv A outer s H E) (bA st) t/\t {nx:=fun _ H'=>Q .non H',rt:=Q} (start N vs) H):DfN P w K mg base (k+1) x ps sp:=by
 obtain⟨f,fd,F,b,hm⟩:=T.ex;obtain⟨oc,od,kV,doc,pm,an,cdv,ct,osl,rfl,lk,hcd⟩:=id F.ex;exact⟨f,_,wR lk hcd S len fun A outer s H vs Q E hr h=>hbody f cdv A outer s H vs Q E hr h,b,hm,F.kp⟩
theorem rH{j k:Nat}{x:Str}{ps:List Str}{sp:Sp}{E:XK}{p pos:Pos}{e:Expr}{es:List Expr}{t:TA}(D:DfN X.prog X.w X.K X.mg X.base j x ps sp)(hr:cA k X.A)(hx:Passes (CXn X.prog X.w) X E)(ha:PA X (e::es) t)(hg:Gl X x:=by rfl)(hj:j<=k:=by decide)
  (hdb:(x==("__debug__":Str))=false:=by decide) (he:starEach (e::es) X.env=(false,eval e X.env)::starEach es X.env:=by rfl) (hpl:(backTo pos (starEach es X.env)).any (·.1)=false:=by rfl):
  PE X (.Call (.Name x p) (e::es) [] pos) (tCE sp E t):=by
 obtain⟨f,fd,F,b,hm,kp⟩:=D.ex;have h:=wA (ds:=[]) (dvs:=[]) (E:=E) (p:=p) (pos:=pos) F (hr.mono hj) hg hm kp b .nil hx ha hdb he hpl;have e1:m4 sp [] E t=tCE sp E t:=by funext σ H Q;unfold m4 tCE;simp only[F3]
 rw[e1]at h;exact h
end
def XBn(X:Cx)(pins:List (Addr×Obj))(W:XK):Value->Shared->Prop:=fun e s'=>∃x C T σ' H2 s2 H' a0 od,e=.ref x/\Inv X pins σ' H2 s2/\s2.heap.get? x=none/\s2.heap.get? T=none/\Inv X pins σ' H' s'/\
 Trc s'.heap x T (.ref C) a0/\H' x=none/\H' T=none/\nP s'.heap x od/\W (.ref C) od H'
noncomputable abbrev Cx.triedN(X:Cx)(pins:List (Addr×Obj))(W:XK):Cx:={X with pn:=X.pn++pins,xe:=XBn X pins W}
structure Ap(K:Frag)(mg:Str->Option Value)(c:Str)(C:Addr):Prop where
 ok:tE K C
 ex:∃C',mg c=some (.ref C')/\tE K C'/\mroIn K C (.ref C')=some true
noncomputable def XN(x C:Addr)(od:Option Addr):HO:=.ext fun h=>∃o vs,h.get? x=some o/\o.cls=.ref C/\o.dict=od/\o.data=.fields vs
section
variable{X:Cx}{pins:List (Addr×Obj)}{σ:St}{H:Hp}{s:Shared}{W:XK}
theorem Inv.triedN(I:Inv X pins σ H s)(W:XK):Inv (X.triedN pins W) [] σ H s:=
 ⟨⟨I.ok.mod,I.ok.kind,I.ok.glob,I.ok.blt,I.ok.above,I.ok.inj,I.ok.has,I.ok.cab,I.ok.hd,I.ok.frames,I.ok.stk,I.ok.exf,I.ok.bs,I.ok.bsz,I.ok.noex,I.ok.exfs,I.ok.funs,I.ok.frf⟩,I.os,I.bare,I.base,I.loc,I.cell,I.free,I.freeC,fun p hp=>I.pin p (by simpa using hp),I.hok,I.len⟩
theorem Inv.untriedN{pins':List (Addr×Obj)}(I:Inv (X.triedN pins W) pins' σ H s):Inv X pins σ H s:=
 ⟨⟨I.ok.mod,I.ok.kind,I.ok.glob,I.ok.blt,I.ok.above,I.ok.inj,I.ok.has,I.ok.cab,I.ok.hd,I.ok.frames,I.ok.stk,I.ok.exf,I.ok.bs,I.ok.bsz,I.ok.noex,I.ok.exfs,I.ok.funs,I.ok.frf⟩,I.os,I.bare,I.base,I.loc,I.cell,I.free,I.freeC,fun p hp=>I.pin p (FR _ hp),I.hok,I.len⟩
theorem SP.untriedN{D:Ends}{f:Flow}{s':Shared}(h:SP (X.triedN pins W) [] D f s'):SP X pins D f s':=by
 cases f with
 |next=>obtain⟨σ',H',I,q⟩:=h;exact⟨σ',H',I.untriedN,q⟩
 |brk=>obtain⟨σ',H',I,q⟩:=h;exact⟨σ',H',I.untriedN,q⟩
 |cont=>obtain⟨σ',H',I,q⟩:=h;exact⟨σ',H',I.untriedN,q⟩
 |ret u=>obtain⟨v,σ',H',I,r,q⟩:=h;exact⟨v,σ',H',I.untriedN,r,q⟩
theorem xH{E':XK}(h:∀C o H,E' C o H->W C o H):Passes (CXn X.prog X.w) (X.triedN pins W) E':=by rintro pins' σ H2 s2 e s' I2 ⟨x,C,T,H',a0,od,rfl,os,bare,un,hok,n1,n2,u1,u2,t,dc,ee⟩;exact⟨x,C,T,σ,H2,s2,H',a0,od,rfl,I2.untriedN,n1,n2,(I2.call' (ch:=[]) os un hok bare (fun _ z=>nomatch z)).untriedN,t,u1,u2,dc,h _ _ _ ee⟩
theorem Inv.trackN{x C:Addr}{od:Option Addr}{o:Obj}{vs:Array Value}(I:Inv X pins σ H s)(n1:X.s₀.heap.get? x=none)(u1:H x=none)(p2:∀p∈X.pn++pins,p.1≠x)(p3:∀y c,X.env.cells.lookup y=some c->c≠x)(p4:x≠X.env.locals)
  (e:s.heap.get? x=some o) (hc:o.cls=.ref C) (hd:o.dict=od) (hv:o.data=.fields vs):Inv X pins σ (upd H x (XN x C od)) s:=by
 have nx:∀b u,H b=some u->b≠x:=fun b u e z=>by rw[z,u1]at e;cases e
 refine⟨I.ok,I.os,I.bare,⟨I.base.keep,I.base.slot,fun b o' e1 n hx=>?_,I.base.there,fun b xs e1=>?_,fun b o' u e1=>?_,fun b ps e1=>?_⟩,I.loc,I.cell,?_,fun y c e1=>?_,fun p hp=>?_,fun b u e1=>?_,I.len⟩
 ·rw[au (fun z=>by rw[z,n1]at e1;cases e1)];exact I.base.free b o' e1 n hx
 ·have q:=I.base.tups b xs e1;rw[au (nx b _ q)];exact q
 ·have q:=I.base.frzs b o' u e1;rw[au (nx b _ q)];exact q
 ·obtain⟨more,q⟩:=I.base.tbls b ps e1;exact⟨more,by rw[au (nx b _ q)];exact q⟩
 ·rw[au (GR p4)];exact I.free
 ·rw[au (p3 y c e1)];exact I.freeC y c e1
 ·obtain⟨a1,a2,a3⟩:=I.pin p hp;exact⟨a1,by rw[au (p2 p hp)];exact a2,a3⟩
 ·by_cases hb:b=x
  ·subst hb;rw[ae]at e1;cases e1;exact⟨⟨o,vs,e,hc,hd,hv⟩,⟨o,e⟩,fun h1 h2 ⟨o1,v1,f1,f2⟩ k=>⟨o1,v1,k o1 f1,f2⟩⟩
  ·rw[au hb]at e1;refine(I.hok b u e1).stay (fun _ _ _ q=>q) (fun c q=>?_) fun c xs q=>?_
   ·rw[au (nx c _ q)];exact q
   ·rw[au (nx c _ q)];exact q
theorem x9{x T C:Addr}{a0:Value}{od:Option Addr}{H2 H':Hp}{s2 s':Shared}{h5:Heap}{c n:Str}{i:Nat}{cp hp:Pos}{b0:Stmt}{suite:List Stmt}{th:TS}{D:Ends}{rest:List ExceptHandler}(hst:X.stack=X.env::X.outer)(hex:X.ex=[])
  (hN:X.N.Nodup) (hi:X.N[i]?=some n) (hl:X.env.kindOf n=some .local)
  (I2:Inv X pins σ H2 s2) (n1:s2.heap.get? x=none) (n2:s2.heap.get? T=none) (I:Inv X pins σ H' s') (u1:H' x=none) (u2:H' T=none)
  (fl5:Heap.FlyingW (PySem.W.hideAll s'.heap (frs (X.env::X.outer)++[x,T])) (X.env::X.outer) x (.ref C) a0 h5) (us45:s'.heap.UpToSlots h5) (dc:nP h5 x od)
  (Z:Ap X.K X.mg c C) (hs:∀y,PSs (X.marked y) (b0::suite) th) (q:th (D.gone i) (σ.set i (some (.ref x))) (upd H' x (XN x C od))) (hg:Gl X c) (hdb:(c==("__debug__":Str))=false) {E:Value->Shared->Prop}:
  wpAny (model X.prog X.w) X.A (handleBy (.ref x) X.env (.ExceptHandler (some (.Name c cp)) (some n) (b0::suite) hp::rest)) (SP X pins D) E {s' with heap:=h5}:=by
 obtain⟨p1,p2,p3,p4⟩:=I2.apart hex n1;obtain⟨r1,r2,r3,r4⟩:=I2.apart hex n2;obtain⟨C',Zg,Zc,hm⟩:=Z.ex;have J:=I.landed (t':=s'.toks) p1 r1 u1 u2 p2 r2 p3 r3 p4 r4 (hst▸fl5.1) us45;obtain⟨oe,he,hcl⟩:=fl5.there;obtain⟨tl,N,nm,qn,bs,hd,sn,sub,ab,col,dd,k0,k1,k2,k3,k5,hC,_,hmr⟩:=oa J.kIn Z.ok;obtain⟨tl',N',nm',qn',bs',hd',sn',sub',ab',col',dd',j0,j1,j2,j3,j5,hC',T',_⟩:=oa J.kIn Zc;refine wpAny_handleBy_cons (codeAny_handlers_test (jC (X:=X.marked x) (J.marked x) hg Zg ?_ hdb)) (by intro z;cases z);refine pj hC hC' he hcl (T'.hasType rfl) (hmr _ _ hm) ?_;refine codeAny_handlers_suite_as ?_;refine F8 ((gz _ _).any (lands_againW (Q:=fun _ s4=>∃h6,s4={s' with heap:=h6}/\Heap.FlyingW (PySem.W.hideAll s'.heap (frs (X.env::X.outer)++[x,T])) (X.env::X.outer) x (.ref C) a0 h6/\h5.UpToSlots h6) fl5 fun h6 fl6 us6=>⟨h6,rfl,fl6,us6⟩)) (fun _ s4 z=>?_) fun _ _ z=>z.1;obtain⟨⟨h6,rfl,fl6,us6⟩,dk⟩:=z;have J6:=I.landed (t':=s'.toks) p1 r1 u1 u2 p2 r2 p3 r3 p4 r4 (hst▸fl6.1) (us45.trans us6);obtain⟨oe6,vs6,_,_,_,he6,⟨hcl6,_⟩,hv6,_⟩:=fl6.2.2.2;obtain⟨o7,e7,d7⟩:=dc.kp dk;have e76:o7=oe6:=F0 (e7.symm.trans he6);have J7:=J6.trackN (od:=od) p1 u1 p2 p3 p4 he6 hcl6 (by rw[<-e76];exact d7) hv6;refine om (v:=.ref x) J7 hN hi (.inl hl) rfl (fun s8 J8=>?_) (.inr hl);refine F8 (hs x pins _ _ _ (D.gone i) (J8.marked x) q) (fun f s9 hq=>?_) (fun _ _ z=>False.elim z);exact Bu hN hi hl I.ok.kind (hq.unmarked I.ok)
def DK(K:Frag)(mg:Str->Option Value)(N:Nat)(tb:XK->TS)(c:Str)(m:Nat)(t1:TS):TS:=fun D σ H=>tb (fun cls od H2=>∃C,cls=.ref C/\Ap K mg c C/\
 ∀(x:Addr)(σ':St),σ'.length=N->H2 x=none->t1 (D.gone m) (σ'.set m (some (.ref x))) (upd H2 x (XN x C od))) D σ H
theorem AZ{m L:Nat}{c nx:Str}{p1 q1 pos:Pos}{body:List Stmt}{b1:Stmt}{su1:List Stmt}{tb:XK->TS}{t1:TS}(hN:X.N.Nodup)(hn:X.N[m]?=some nx)(hl:X.env.kindOf nx=some .local)
  (hb:∀pins W,PSs (X.triedN pins W) body (tb W)) (h1:∀z,PSs (X.marked z) (b1::su1) t1)
  (hst:X.stack=X.env::X.outer:=by rfl) (hf:X.env.frame=some L:=by rfl) (hex:X.ex=[]:=by rfl) (hg1:Gl X c:=by rfl) (hd1:(c==("__debug__":Str))=false:=by decide):
  PS X (.Try body [.ExceptHandler (some (.Name c p1)) (some nx) (b1::su1) q1] [] [] pos) (DK X.K X.mg X.N.length tb c m t1):=by
 intro pins s σ H DD I h;refine wpAny_Try_except (F8 (hb pins _ [] s σ H DD (I.triedN _) h) (fun f s1 q=>?_) fun e s1 q=>?_)
 ·have q':=SP.untriedN q;cases f with
  |next=>exact wpAny_execs_nil q'
  |brk=>exact q'
  |cont=>exact q'
  |ret u=>exact q'
 ·obtain⟨x,C,T,σ',H2,s2,H',a0,od,rfl,I2,n1,n2,J,t,u1,u2,dc,C2,ec,Z,q⟩:=q;cases ec;have fl:=zO J t;rw[hst]at fl;refine F8 ((qJ _ _).any (wpAny_looks_onW (Q:=fun _ s4=>∃h4,s4={s1 with heap:=h4}/\Heap.HeldW (PySem.W.hideAll s1.heap (frs (X.env::X.outer)++[x,T])) (X.env::X.outer) x (.ref C) a0 L h4/\s1.heap.UpToSlots h4) (outer:=X.outer) (by rw[J.ok.frames,hst]) hf fl fun h4 held us4=>⟨h4,rfl,held,us4⟩)) (fun _ s4 z=>?_) fun _ _ z=>z.1;obtain⟨⟨h4,rfl,held,us4⟩,dk4⟩:=z;refine F8 ((gz _ _).any (wpAny_landsW (Q:=fun _ s5=>∃h5,s5={s1 with heap:=h5}/\Heap.FlyingW (PySem.W.hideAll s1.heap (frs (X.env::X.outer)++[x,T])) (X.env::X.outer) x (.ref C) a0 h5/\h4.UpToSlots h5) held fun h5 fl5 us5=>⟨h5,rfl,fl5,us5⟩)) (fun _ s5 z=>?_) fun _ _ z=>z.1;obtain⟨⟨h5,rfl,fl5,us5⟩,dk5⟩:=z;exact x9 hst hex hN hn hl I2 n1 n2 J u1 u2 fl5 (us4.trans us5) ((dc.kp dk4).kp dk5) Z h1 (q x σ' J.len u1) hg1 hd1
def DS(K:Frag)(ta:TE)(f:Str):TE:=fun σ H Q=>ta σ H fun x H1=>∃a C dx fs v,x=.ref a/\H1 a=some (XN a C (some dx))/\H1 dx=some (XD dx fs)/\RdX K C f/\fs.lookup f=some v/\Q v H1
theorem wz{K:Frag}{e:Expr}{f:Str}{pos:Pos}{ta:TE}(hK:X.K=K)(he:PE X e ta)(hb:attributeBase e f X.env (eval e X.env)=eval e X.env:=by rfl):PE X (.Attribute e f pos) (DS K ta f):=by
 subst hK;intro pins s σ H Q I h;refine xb hb (thn (he pins s σ H _ I h) fun u s1 hPz=>?_);obtain⟨x,H1,I1,rx,a,C,dx,fs,v,ex,hx,hd,R,l,q⟩:=hPz;subst ex;obtain rfl:u=Value.ref a:=rx;obtain⟨o,vs,e1,e2,e3,e4⟩:=(I1.hok a _ hx).1;obtain⟨mA,n0,r0,w0⟩:=(I1.hok dx _ hd).1;obtain⟨u',hu,ru⟩:=hU.some_of (v:=v) (o:=mA f) (by rw[<-l];exact r0 f);have nc:PySem.W.notCls o=true:=by obtain⟨c,d,dt,sl⟩:=o;cases e4;rfl
 obtain⟨hp,g,d,tk,os⟩:=s1;exact PySem.W.Fc I1.kIn e1 e2 nc e3 n0 hu R.pl R.ga R.gt R.na (PySem.W.handedOut_of (qL ru)) ⟨v,H1,I1.tok _,ru,q⟩
end
structure Fi(K:Frag)(mg:Str->Option Value)(c:Str)(L:Addr)(m:Str)(f:Addr):Prop where
 mg:mg c=some (.ref L)
 rd:PySem.W.readsIn K L (.type "type")=true
 sp:PySem.W.specialIn K (.ref L) "__getattribute__"=some (some (.builtin "type.__getattribute__"))
 fc:PySem.W.findCls K (.ref L) (.type "type") m=some (.val (.ref f))
 kp:keepIn K (.ref f)=true
section
variable{X:Cx}{CX:CXT}{k:Nat}{f C:Addr}{fd:FuncData}{ps:List Str}{sp:Sp}{dvs:List V}{ds:List Value}{E:XK}{c m:Str}{L:Addr}{np pos apos:Pos}{e o:Expr}{es:List Expr}{ta:TE}{t:TA}
theorem A9{pl:Sem Bool}(Z:Fi X.K X.mg c L m f)(F:gK X.prog X.w X.K X.mg X.base CX k f fd ps sp)(hr:cA k X.A)(hb:Binds X.K fd ps ds)(hd:Vals dvs ds)(hx:Passes CX X E)(ha:PA X (e::es) t)(hg:Gl X c:=by rfl)(hdb:(c==("__debug__":Str))=false:=by decide)
  (hst:starEach (e::es) X.env=(false,eval e X.env)::starEach es X.env:=by rfl) (hpl:(backTo pos (starEach es X.env)).any (·.1)=false:=by rfl)
  (ht:eval (.Call (.Attribute (.Name c np) m apos) (e::es) [] pos) X.env=(do
   let ov <-eval (.Name c np) X.env
   standAt apos.atName
   let (f,first) <-holding [ov] (getMethod ov m pl)
   callWith pos f first (backTo pos (starEach (e::es) X.env)) (backToKw pos (keywordEach [] X.env))):=by rfl):
  PE X (.Call (.Attribute (.Name c np) m apos) (e::es) [] pos) (m4 sp dvs E t):=by
 intro pins s σ H Q I h;refine PySem.W.methodCall_KW (pl:=pl) (thn (wy (v:=.ref L) hg Z.mg rfl hdb pins s σ H (fun x H1=>x=.ref L/\H1=H) I ⟨rfl,rfl⟩) fun u s1 hPz=>?_) ht;obtain⟨x,H1,I1,rx,ex,eH⟩:=hPz;subst ex eH;obtain rfl:u=Value.ref L:=rx;refine PySem.W.method_cls I1.kIn Z.sp (PySem.W.cls_value I1.kIn Z.rd Z.fc rfl ?_);refine PySem.W.callWith_K (first:=[]) (h₀:=X.base) I.ok.mod.kin Z.kp (thn (ha pos pins _ σ _ _ (I1.tok _) h) fun us s2 hPz=>L2.ep3 hPz fun vs H2 I2 r q2=>⟨I2.kIn,?_⟩) hst hpl;exact uY (us:=us) (vs:=vs) F hr hb hd hx I2 r q2
end
structure TxM(K:Frag)(C:Addr)(m qual:Str)(st:Stmt)(ps:List Str)(ds:List Value):Prop where
 ex:∃(f:Addr)(oc:Value)(od:Option Addr)(osl:Array (Option Value))(dV kV doc pm:Value)(an:Option Addr)(cdv ct:Value),
  K.lookup f=some ⟨oc,od,.func (fnOf m qual (cF st) (bA st) (ao st) dV kV doc pm an cdv ct),osl⟩/\codeIn K cdv qual=true/\Meth K C m f/\
  Binds K (fnOf m qual (cF st) (bA st) (ao st) dV kV doc pm an cdv ct) ps []/\Binds K (fnOf m qual (cF st) (bA st) (ao st) dV kV doc pm an cdv ct) ps ds
structure DfT(P:Program)(w:World)(K:Frag)(mg:Str->Option Value)(base:Heap)(CX:CXT)(k:Nat)(C:Addr)(m:Str)(ps:List Str)(sp:Sp)(ds:List Value):Prop where
 ex:∃f fd,gK P w K mg base CX k f fd ps sp/\Binds K fd ps []/\Binds K fd ps ds/\Meth K C m f
section
variable{P:Program}{w:World}{K:Frag}{mg:Str->Option Value}{base:Heap}{CX:CXT}{k j:Nat}{C C':Addr}{m qual:Str}{st:Stmt}{N ps:List Str}{sp:Sp}{ds:List Value}
theorem DfT.under(D:DfT P w K mg base CX k C m ps sp ds)(e:findIn K (.ref C') m=findIn K (.ref C) m):DfT P w K mg base CX k C' m ps sp ds:=by obtain⟨f,fd,F,b1,b2,M⟩:=D.ex;exact⟨f,fd,F,b1,b2,⟨e.trans M.at_,M.fn,M.kp⟩⟩
theorem DfT.up(D:DfT P w K mg base CX j C m ps sp ds)(h:j<=k):DfT P w K mg base CX k C m ps sp ds:=by obtain⟨f,fd,F,r⟩:=D.ex;exact⟨f,fd,F.mono h,r⟩
theorem TxM.df(T:TxM K C m qual st ps ds)(S:aB N ps (ao st))(len:∀vs H Q E,sp vs H Q E->vs.length=ps.length)
  (hbody:∀(f:Addr)(cdv:Value)(A:Around)(outer:List Env)(s:Shared)(H:Hp)(vs:List V)(Q:VK)(E:XK),cA k (A.deeper (envOfC qual (ao st) s.heap.objs.size f cdv))->sp vs H Q E->
   ∃t,PSs (gN CX0 P w K mg base N qual (ao st) f cdv A outer s H E).nox (bA st) t/\t {nx:=fun _ H'=>Q .non H',rt:=Q} (start N vs) H):DfT P w K mg base CX0 (k+1) C m ps sp ds:=by
 obtain⟨f,oc,od,osl,dV,kV,doc,pm,an,cdv,ct,l,c,M,b1,b2⟩:=T.ex;refine⟨f,_,wR l c S len fun A outer s H vs Q E hr hsp=>?_,b1,b2,M⟩;obtain⟨t,h,q⟩:=hbody f cdv A outer s H vs Q E hr hsp;exact⟨t,h.nox,q⟩
theorem TxM.dfN(T:TxM K C m qual st ps ds)(S:aB N ps (ao st))(len:∀vs H Q E,sp vs H Q E->vs.length=ps.length)
  (hbody:∀(f:Addr)(cdv:Value)(A:Around)(outer:List Env)(s:Shared)(H:Hp)(vs:List V)(Q:VK)(E:XK),cA k (A.deeper (envOfC qual (ao st) s.heap.objs.size f cdv))->sp vs H Q E->
   ∃t,PSs (gN (CXn P w) P w K mg base N qual (ao st) f cdv A outer s H E) (bA st) t/\t {nx:=fun _ H'=>Q .non H',rt:=Q} (start N vs) H):DfT P w K mg base (CXn P w) (k+1) C m ps sp ds:=by
 obtain⟨f,oc,od,osl,dV,kV,doc,pm,an,cdv,ct,l,c,M,b1,b2⟩:=T.ex;exact⟨f,_,wR l c S len fun A outer s H vs Q E hr hsp=>hbody f cdv A outer s H vs Q E hr hsp,b1,b2,M⟩
theorem q5{f:Addr}{oc:Value}{od an:Option Addr}{osl:Array (Option Value)}{kV doc pm cdv ct:Value}(a:findIn K (.ref C) m=some (some (.ref f)))(fn:PySem.W.isFn K (.ref f)=true)
  (l:K.lookup f=some ⟨oc,od,.func (fnOf m qual (cF st) (bA st) (ao st) .none kV doc pm an cdv ct),osl⟩) (c:codeIn K cdv qual=true) (k:keepIn K (.ref f)=true)
  (hb:∀(kV doc pm:Value)(an:Option Addr)(cdv ct:Value)(us:List Value),us.length=ps.length->bindArgs (fnOf m qual (cF st) (bA st) (ao st) .none kV doc pm an cdv ct) ⟨us,[]⟩=pure (ps.zip us)):TxM K C m qual st ps []:=
 have b:=(ph (x:=m) (qual:=qual) (st:=st) l c k).binds hb
 ⟨f,oc,od,osl,.none,kV,doc,pm,an,cdv,ct,l,c,⟨a,fn,k⟩,b,b⟩
theorem vZ{f:Addr}{oc:Value}{od an:Option Addr}{osl:Array (Option Value)}{dV kV doc pm cdv ct:Value}(a:findIn K (.ref C) m=some (some (.ref f)))(fn:PySem.W.isFn K (.ref f)=true)
  (l:K.lookup f=some ⟨oc,od,.func (fnOf m qual (cF st) (bA st) (ao st) dV kV doc pm an cdv ct),osl⟩) (c:codeIn K cdv qual=true) (k:keepIn K (.ref f)=true)
  (b1:∀us:List Value,us.length=ps.length->∀S,PySem.W.peek K S (bindArgs (fnOf m qual (cF st) (bA st) (ao st) dV kV doc pm an cdv ct) ⟨us,[]⟩)=some (ps.zip us))
  (b2:∀us:List Value,(us++ds).length=ps.length->∀S,PySem.W.peek K S (bindArgs (fnOf m qual (cF st) (bA st) (ao st) dV kV doc pm an cdv ct) ⟨us,[]⟩)=some (ps.zip (us++ds))):TxM K C m qual st ps ds:=by
 refine⟨f,oc,od,osl,dV,kV,doc,pm,an,cdv,ct,l,c,⟨a,fn,k⟩,fun s us X' hl=>?_,fun s us X' hl=>PySem.W.kp_binds X' (b2 us hl)⟩;rw[F3]at hl ⊢;exact PySem.W.kp_binds X' (b1 us hl)
end
section
variable{X:Cx}{CX:CXT}{k:Nat}{C:Addr}{ps:List Str}{sp:Sp}{dvs:List V}{ds:List Value}{E:XK}{c m:Str}{L:Addr}{np pos apos:Pos}{e o:Expr}{es:List Expr}{ta:TE}{t:TA}
def Cn(X:Cx)(CX:CXT)(k:Nat)(m:Str)(ps:List Str)(dvs:List V)(ds:List Value)(E:XK)(ta:TE)(t:TA):TE:=fun σ H Q=>ta σ H fun x H1=>∃a C dx fs sp,x=.ref a/\H1 a=some (.ins C dx fs)/\Cls X.K C/\DfT X.prog X.w X.K X.mg X.base CX k C m ps sp ds/\fs.lookup m=none/\
 t σ H1 fun vs H2=>sp (x::(vs++dvs)) H2 Q E
theorem tU{pl:Sem Bool}(ps:List Str)(k:Nat)(he:PE X o ta)(hr:cA k X.A)(hd:Vals dvs ds)(hx:Passes CX X E)(ha:PA X (e::es) t)
  (hst:starEach (e::es) X.env=(false,eval e X.env)::starEach es X.env:=by rfl) (hpl:(backTo pos (starEach es X.env)).any (·.1)=false:=by rfl)
  (ht:eval (.Call (.Attribute o m apos) (e::es) [] pos) X.env=(do
   let ov <-eval o X.env
   standAt apos.atName
   let (f,first) <-holding [ov] (getMethod ov m pl)
   callWith pos f first (backTo pos (starEach (e::es) X.env)) (backToKw pos (keywordEach [] X.env))):=by rfl):
  PE X (.Call (.Attribute o m apos) (e::es) [] pos) (Cn X CX k m ps dvs ds E ta t):=by
 intro pins s σ H Q I h;refine PySem.W.methodCall_KW (pl:=pl) (thn (he pins s σ H _ I h) fun u s1 hPz=>?_) ht;obtain⟨x,H1,I1,rx,a,C,dx,fs,sp,ex,ea,c,D,l,q⟩:=hPz;subst ex;obtain rfl:u=Value.ref a:=rx;obtain⟨f,fd,F,_,b,hm⟩:=D.ex;refine vC I1 ea c hm l ?_;refine PySem.W.callWith_K (first:=[.ref a]) (h₀:=X.base) I.ok.mod.kin hm.kp (thn (ha pos pins s1 σ H1 _ I1 q) fun us s2 hPz=>L2.ep3 hPz fun vs H2 I2 r q2=>⟨I2.kIn,?_⟩) hst hpl;exact uY (us:=.ref a::us) (vs:=.ref a::vs) F hr b hd hx I2 (.cons rfl r) q2
structure MkC(K:Frag)(mg:Str->Option Value)(c:Str)(C:Addr):Prop where
 mg:mg c=some (.ref C)
 makes:PySem.W.makesIn K C=true
 kp:keepIn K (.ref C)=true
theorem tV{j:Nat}(M:MkC X.K X.mg c C)(D:DfT X.prog X.w X.K X.mg X.base CX0 j C "__init__" ps sp [])(hr:cA k X.A)(ha:PA X (e::es) t)(hg:Gl X c:=by rfl)(hj:j+1<=k:=by decide)(hdb:(c==("__debug__":Str))=false:=by decide)
  (he:starEach (e::es) X.env=(false,eval e X.env)::starEach es X.env:=by rfl) (hpl:(backTo pos (starEach es X.env)).any (·.1)=false:=by rfl):PE X (.Call (.Name c np) (e::es) [] pos) (BY C sp [] E0 t):=by
 obtain⟨f,fd,F,b,_,hm⟩:=D.ex;exact A7 ⟨M.makes,hm.at_,hm.fn,M.kp⟩ F (hr.mono hj) hg M.mg b .nil tZ ha hdb he hpl
structure BV(K:Frag)(mg:Str->Option Value)(c:Str)(L:Addr)(m:Str):Prop where
 mg:mg c=some (.ref L)
 rd:PySem.W.readsIn K L (.type "type")=true
 sp:PySem.W.specialIn K (.ref L) "__getattribute__"=some (some (.builtin "type.__getattribute__"))
 fc:∃f,findIn K (.ref L) m=some (some (.ref f))/\PySem.W.findCls K (.ref L) (.type "type") m=some (.val (.ref f))
theorem tW{j:Nat}{pl:Sem Bool}(Z:BV X.K X.mg c L m)(D:DfT X.prog X.w X.K X.mg X.base CX0 j L m ps sp [])(hr:cA k X.A)(ha:PA X (e::es) t)(hg:Gl X c:=by rfl)(hj:j<=k:=by decide)(hdb:(c==("__debug__":Str))=false:=by decide)
  (hst:starEach (e::es) X.env=(false,eval e X.env)::starEach es X.env:=by rfl) (hpl:(backTo pos (starEach es X.env)).any (·.1)=false:=by rfl)
  (ht:eval (.Call (.Attribute (.Name c np) m apos) (e::es) [] pos) X.env=(do
   let ov <-eval (.Name c np) X.env
   standAt apos.atName
   let (f,first) <-holding [ov] (getMethod ov m pl)
   callWith pos f first (backTo pos (starEach (e::es) X.env)) (backToKw pos (keywordEach [] X.env))):=by rfl):
  PE X (.Call (.Attribute (.Name c np) m apos) (e::es) [] pos) (tCF sp t):=by
 obtain⟨f,fd,F,b,_,hm⟩:=D.ex;obtain⟨f',e1,e2⟩:=Z.fc;obtain rfl:f'=f:=Value.ref.inj (F0 (F0 (e1.symm.trans hm.at_)));have h:=A9 (dvs:=[]) (ds:=[]) (E:=E0) (pl:=pl) ⟨Z.mg,Z.rd,Z.sp,e2,hm.kp⟩ F (hr.mono hj) b .nil tZ ha hg hdb hst hpl ht;have e3:m4 sp [] E0 t=tCF sp t:=by funext σ H Q;unfold m4 tCF;simp only[F3]
 rw[e3]at h;exact h
end
section
variable{K:Frag}{h:Heap}{mg:Str->Option Value}{c m:Str}{C f:Addr}
theorem two_eq{α:Type}{a b d:α}(x:a=d)(y:b=d):a=b:=x.trans y.symm
theorem zl(X:K.In h)(G:h.Ns mainGlobals mg)(a:nsIn K mainGlobals c=some (some (.ref C)))(b:PySem.W.makesIn K C=true)(d:keepIn K (.ref C)=true):MkC K mg c C:=⟨PySem.W.mg_of X G a,b,d⟩
theorem BG(X:K.In h)(G:h.Ns mainGlobals mg)(a:nsIn K mainGlobals c=some (some (.ref C)))(rd:PySem.W.readsIn K C (.type "type")=true)
 (sp:PySem.W.specialIn K (.ref C) "__getattribute__"=some (some (.builtin "type.__getattribute__"))) (fi:findIn K (.ref C) m=some (some (.ref f))) (fc:PySem.W.findCls K (.ref C) (.type "type") m=some (.val (.ref f))):BV K mg c C m:=⟨PySem.W.mg_of X G a,rd,sp,f,fi,fc⟩
theorem Au(fi:findIn K (.ref C) "__init__"=some (some (.ref f)))(ok:PySem.W.jv K C PySem.W.vErr4 "ValueError.__new__" f=true):tE K C:=⟨f,ok⟩
theorem Bt(X:K.In h)(G:h.Ns mainGlobals mg)(a:nsIn K mainGlobals c=some (some (.ref C)))(fi:findIn K (.ref C) "__init__"=some (some (.ref f)))(ok:PySem.W.jv K C PySem.W.vErr4 "ValueError.__new__" f=true)
 (mr:mroIn K C (.ref C)=some true):Ap K mg c C:=⟨⟨f,ok⟩,C,PySem.W.mg_of X G a,⟨f,ok⟩,mr⟩
end
end L2
namespace L2
theorem mN{α:Type}{P:α->Prop}:∀p∈([]:List α),P p:=fun _ h=>nomatch h
theorem mC{α:Type}{P:α->Prop}{a:α}{l:List α}(h:P a)(t:∀p∈l,P p):∀p∈a::l,P p:=fun p hp=>by
 cases hp with
 |head=>exact h
 |tail _ hp=>exact t p hp
end L2
namespace L2
open PySem PySem.Spec PyProof.Rows LM
def OnR(R:cf)(r:List Key):Prop:=∃q∈R,r∈q.2
structure jw(rs:List (List Key))(R:cf):Prop where
 len:R.length<=28
 sub:∀q∈R,∀r∈q.2,r∈rs
 l59:rs.length<=59
 bur:∀r∈rs,du r
 nd:(rs.map av).Nodup
 good:∀q∈R,GoodC q.2
theorem jw.l60{rs:List (List Key)}{R:cf}(h:jw rs R):R.length<60:=Nat.lt_of_le_of_lt h.len (by decide)
theorem jw.l64{rs:List (List Key)}{R:cf}(h:jw rs R):R.length<=64:=FW h.len (by decide)
noncomputable def cz:List Key->Str
 |_::_:: .inr x::_=>x
 |_=>Str.empty
structure xf(K:Frag)(mg:Str->Option Value)(C:Addr):Prop where
 cls:Cls K C
 num:ba K C "number"
 sin:ba K C "since"
 sig:ba K C "signed"
 want:∃CP,mg "Paper"=some (.ref CP)/\findIn K (.ref C) "wanting"=findIn K (.ref CP) "wanting"
noncomputable def E7(num since:Int)(sg:Addr):List (Str×V):=[("number",.int num),("since",.int since),("signed",.ref sg)]
noncomputable def fH(sg:List Str):List Str->Option Str
 | []=>none
 |x::xs=>if x∈sg then fH sg xs else some x
noncomputable def SV(xs:List Str):List V:=xs.map V.str
noncomputable def BX(o:Option Str):V:=match o with
 |none=>.non
 |some x=>.str x
theorem AL(a b:Str):PyData.eqv (.str a) (.str b)=decide (a=b):=by
 have h:=sL (.inr a) (.inr b);have e:(decide ((Sum.inr a:Key)=Sum.inr b))=decide (a=b):=by
  by_cases z:a=b
  ·simp[z]
  ·simp[z]
 rw[e]at h;exact h
theorem pI(ss:List Str)(x:Str):((ss.map PyData.str).any fun e=>PyData.eqv e (.str x))=decide (x∈ss):=by
 rw[List.any_map]
 induction ss with
 |nil=>simp
 |cons y ys ih=>
  rw[GQ,ih];show(PyData.eqv (.str y) (.str x)||_)=_;rw[AL];by_cases z:x=y
  ·subst z;simp
  ·have z':¬y=x:=fun w=>z w.symm;simp[z,z']
theorem hW(sg:List Str)(x:Str)(xs:List Str):fH sg (x::xs)=if x∈sg then fH sg xs else some x:=rfl
theorem jE{K:Frag}{mg:Str->Option Value}{CF:Addr}{H0 Hc:Hp}{E:XK}{tv v u:V}(z:fP mg "Falls" CF)(xc:tE K CF)(s:ak H0 Hc)
  (e:∀dx H',ak Hc H'->H' dx=some (XD dx [("who",u),("word",v)])->E (yg mg "Falls") (some dx) H'):
  ∀x,Hc x=none->Ct CF "word" "who" [.ref x,tv,v,u] (upd Hc x (XO x CF none)) (fun v' H2=>v'=.non/\∃x' C od,V.ref x=.ref x'/\H2 x'=some (XO x' C od)/\tE K C/\RzW H0 E x' (.ref C) od H2) E0:=by
 intro x hx;refine⟨x,tv,v,u,rfl,ae,fun dx hd ne=>⟨rfl,x,CF,some dx,rfl,?_,xc,s.free hx,?_⟩⟩
 ·rw[au (fun y=>ne y.symm)];exact ae
 ·rw[<-pF z];have hdc:Hc dx=none:=by
   rw[au ne]at hd;exact hd
  refine e dx _ (fun b o h=>?_) ?_
  ·have n1:b≠x:=fun y=>by rw[y,hx]at h;cases h
   have n2:b≠dx:=fun y=>by rw[y,hdc]at h;cases h
   rw[fN n1,au n2,au n1,au n1];exact h
  ·rw[fN ne];exact ae
section
variable{X:Cx}{CX:CXT}{k:Nat}{ps:List Str}{dvs:List V}{ds:List Value}{E:XK}{m:Str}{pos apos:Pos}{e o:Expr}{es:List Expr}{ta:TE}{t:TA}
def Cm(P:Program)(w:World)(K:Frag)(mg:Str->Option Value)(base:Heap)(CX:CXT)(k:Nat)(m:Str)(ps:List Str)(dvs:List V)(ds:List Value)(E:XK)(ta:TE)(t:TA):TE:=fun σ H Q=>ta σ H fun x H1=>∃a C dx fs sp,x=.ref a/\H1 a=some (.ins C dx fs)/\Cls K C/\DfT P w K mg base CX k C m ps sp ds/\fs.lookup m=none/\
 t σ H1 fun vs H2=>sp (x::(vs++dvs)) H2 Q E
theorem y9{P:Program}{w:World}{K:Frag}{mg:Str->Option Value}{base:Heap}{pl:Sem Bool}(hP:X.prog=P)(hw:X.w=w)(hK:X.K=K)(hm:X.mg=mg)(hb:X.base=base)(ps:List Str)(k:Nat)(he:PE X o ta)(hr:cA k X.A)(hd:Vals dvs ds)(hx:Passes CX X E)(ha:PA X (e::es) t)
  (hst:starEach (e::es) X.env=(false,eval e X.env)::starEach es X.env:=by rfl) (hpl:(backTo pos (starEach es X.env)).any (·.1)=false:=by rfl)
  (ht:eval (.Call (.Attribute o m apos) (e::es) [] pos) X.env=(do
   let ov <-eval o X.env
   standAt apos.atName
   let (f,first) <-holding [ov] (getMethod ov m pl)
   callWith pos f first (backTo pos (starEach (e::es) X.env)) (backToKw pos (keywordEach [] X.env))):=by rfl):
  PE X (.Call (.Attribute o m apos) (e::es) [] pos) (Cm P w K mg base CX k m ps dvs ds E ta t):=by
 subst hP hw hK hm hb;exact tU (pl:=pl) ps k he hr hd hx ha hst hpl ht
end
structure uM(K:Frag)(mg:Str->Option Value)(C:Addr):Prop where
 pap:xf K mg C
 at':ba K C "at"
 bur:ba K C "burden"
noncomputable def lG(num since:Int)(sg:Addr)(c n:Int):List (Str×V):=[("number",.int num),("since",.int since),("signed",.ref sg),("at",.int c),("burden",.int n)]
noncomputable def qW(num since:Int)(sg:Addr)(c n h:Int):List (Str×V):=[("number",.int num),("since",.int since),("signed",.ref sg),("at",.int c),("burden",.int n),("ahead",.int h)]
structure PlG(rs:List (List Key))(p:Plt):Prop where
 nm:jw rs p.R
 st:∃f,bj f p.R/\∀i,i<64->((f i).isSome=true<->p.g.testBit i=true)
noncomputable def fnd(ps:List Plt)(c:Nat):Option Plt:=ps.find? fun p=>p.g.testBit c
theorem ju{K:Frag}{H:Hp}{c:Nat}:∀{xs:List V}{ps:List Plt},Paired (PlE K H) xs ps->
  (cS xs (ps.map (·.g)) c=.non/\fnd ps c=none)\/∃v p,cS xs (ps.map (·.g)) c=v/\v≠ .non/\fnd ps c=some p/\PlE K H v p/\p∈ps
 |_,_,.nil=>.inl ⟨rfl,rfl⟩
 |_,_,.cons (a:=x) (b:=p) (l₁:=xs) (l₂:=ps) h t=>by
  by_cases z:p.g.testBit c=true
  ·refine .inr ⟨x,p,?_,?_,?_,h,Fw ..⟩
   ·show(if p.g.testBit c=true then x else _)=x;rw[FH z]
   ·obtain⟨l,ls,lr,e,_⟩:=h;rw[e];exact fun w=>nomatch w
   ·show List.find? _ (p::ps)=_;simp[F6,z]
  ·have e1:cS (x::xs) ((p::ps).map (·.g)) c=cS xs (ps.map (·.g)) c:=by
    show(if p.g.testBit c=true then x else _)=_;rw[FA z]
   have e2:fnd (p::ps) c=fnd ps c:=by show List.find? _ (p::ps)=_;simp[F6,z,fnd]
   rw[e1,e2];rcases ju t with h|⟨v,q,h1,h2,h3,h4,h5⟩
   ·exact .inl h
   ·exact .inr ⟨v,q,h1,h2,h3,h4,Ft _ h5⟩
inductive kE
 |falls (word who:Str)
 |does (p q:Plt)
noncomputable def Cc(p q:Plt):PyData:=.tuple [.tuple [plD p],.tuple [plD q],.tuple []]
noncomputable def outD:kE->PyData
 | .falls w x=>.tuple [.str "falls",.str w,.str x]
 | .does p q=>.tuple [.str "does",Cc p q]
def cK(ps:List Plt)(c:Nat)(n num:Int)(sg:List Str)(o:kE):Prop:=match fnd ps c with
 |none=>o=.falls "waste" ""
 |some p=>((∀r,OnR p.R r->av r≠n)/\o=.falls "burden" "")\/∃r,OnR p.R r/\av r=n/\((cz r∉sg/\o=.falls "sign" (cz r))\/(cz r∈sg/\∃f R',bj f p.R/\bj (fun i=>(f i).map (wo n)) R'/\o=.does p ⟨p.g,p.S,R',num⟩))
def eU(ps:List Plt)(c:Nat)(n h num:Int)(sg:List Str)(o:kE):Prop:=match fnd ps c with
 |none=>o=.falls "waste" ""
 |some p=>(((∀r,OnR p.R r->av r≠n)\/∀r,OnR p.R r->av r≠h)/\o=.falls "burden" "")\/((∃r,OnR p.R r/\av r=n)/\(∃r,OnR p.R r/\av r=h)/\∃T,ml (p.R.map fun q=>dX n h q.2) T/\
  ((T=[]/\o=.falls "rank" "")\/(∃x,fH sg (T.map cz)=some x/\o=.falls "sign" x)\/(T≠[]/\fH sg (T.map cz)=none/\∃f R',bj f p.R/\bj (fun i=>(f i).map (dI n h)) R'/\o=.does p ⟨p.g,p.S,R',num⟩)))
section
variable{ps:List Plt}{c:Nat}{n h num:Int}{sg:List Str}
theorem cK.waste(h:fnd ps c=none):cK ps c n num sg (.falls "waste" ""):=by unfold cK;rw[h]
theorem cK.burden(p:Plt)(h:fnd ps c=some p)(h2:∀r,OnR p.R r->av r≠n):cK ps c n num sg (.falls "burden" ""):=by unfold cK;rw[h];exact .inl ⟨h2,rfl⟩
theorem cK.sign(p:Plt)(r:List Key)(h:fnd ps c=some p)(h2:OnR p.R r)(h3:av r=n)(h4:cz r∉sg):cK ps c n num sg (.falls "sign" (cz r)):=by unfold cK;rw[h];exact .inr ⟨r,h2,h3,.inl ⟨h4,rfl⟩⟩
theorem cK.does(p:Plt)(r:List Key)(f:Nat->Option Col)(R':cf)(h:fnd ps c=some p)(h2:OnR p.R r)(h3:av r=n)(h4:cz r∈sg)(h5:bj f p.R)(h6:bj (fun i=>(f i).map (wo n)) R'):cK ps c n num sg (.does p ⟨p.g,p.S,R',num⟩):=by unfold cK;rw[h];exact .inr ⟨r,h2,h3,.inr ⟨h4,f,R',h5,h6,rfl⟩⟩
theorem eU.waste(k:fnd ps c=none):eU ps c n h num sg (.falls "waste" ""):=by unfold eU;rw[k]
theorem eU.burden(p:Plt)(k:fnd ps c=some p)(h2:(∀r,OnR p.R r->av r≠n)\/∀r,OnR p.R r->av r≠h):eU ps c n h num sg (.falls "burden" ""):=by unfold eU;rw[k];exact .inl ⟨h2,rfl⟩
theorem eU.rank(p:Plt)(r r':List Key)(k:fnd ps c=some p)(h1:OnR p.R r)(h2:av r=n)(h3:OnR p.R r')(h4:av r'=h)(h5:ml (p.R.map fun q=>dX n h q.2) []):eU ps c n h num sg (.falls "rank" ""):=by unfold eU;rw[k];exact .inr ⟨⟨r,h1,h2⟩,⟨r',h3,h4⟩,_,h5,.inl ⟨rfl,rfl⟩⟩
theorem eU.sign(p:Plt)(r r':List Key)(T:Col)(x:Str)(k:fnd ps c=some p)(h1:OnR p.R r)(h2:av r=n)(h3:OnR p.R r')(h4:av r'=h)(h5:ml (p.R.map fun q=>dX n h q.2) T)(h6:fH sg (T.map cz)=some x):eU ps c n h num sg (.falls "sign" x):=by unfold eU;rw[k];exact .inr ⟨⟨r,h1,h2⟩,⟨r',h3,h4⟩,_,h5,.inr (.inl ⟨x,h6,rfl⟩)⟩
theorem eU.does(p:Plt)(r r':List Key)(T:Col)(f:Nat->Option Col)(R':cf)(k:fnd ps c=some p)(h1:OnR p.R r)(h2:av r=n)(h3:OnR p.R r')(h4:av r'=h)(h5:ml (p.R.map fun q=>dX n h q.2) T)(h6:T≠[])(h7:fH sg (T.map cz)=none)(h8:bj f p.R)(h9:bj (fun i=>(f i).map (dI n h)) R'):eU ps c n h num sg (.does p ⟨p.g,p.S,R',num⟩):=by unfold eU;rw[k];exact .inr ⟨⟨r,h1,h2⟩,⟨r',h3,h4⟩,_,h5,.inr (.inr ⟨h6,h7,f,R',h8,h9,rfl⟩)⟩
end
def zS(K:Frag)(mg:Str->Option Value)(H:Hp)(Q:VK)(E:XK)(R:kE->Prop):Prop:=
 (∀p q v H',ak H H'->R (.does p q)->IsD K H' (Cc p q) v->Q v H')/\
 ∀w x dx H',ak H H'->R (.falls w x)->H' dx=some (XD dx [("who",.str x),("word",.str w)])->E (yg mg "Falls") (some dx) H'
theorem iP{K:Frag}{H:Hp}{v:V}{r:List Key}(hb:du r)(h:bS K H v r):∃a xs,v=.ref a/\SqT K H a xs/\atI xs 2=some (.str (cz r))/\PyData.canLay0 (.str (cz r))=true:=by obtain⟨n,k,x,m,u,rfl⟩:=hb;obtain⟨lay,a,rfl,ha⟩:=h;refine⟨a,_,rfl,ha,rfl,?_⟩;exact lay (.inr x) (by simp)
theorem vN{C:List Col}{T:Col}{rs:List (List Key)}{k:Nat}(h:ml C T)(sub:∀c∈C,∀r∈c,r∈rs)(hk:rs.length<=k):T.length<=k:=by
 have nd:T.Nodup:=List.Pairwise.imp (fun {a b} w e=>by rw[e]at w;lia) h.so;have:T.length<=rs.length:=nd.length_le_of_subset fun r hr=>by obtain⟨c,hc,hr'⟩:=(h.mem r).mp hr;exact sub c hc r hr'
 lia
theorem st5{σ:St}(h:σ.length=5):∃o0 o1 o2 o3 o4,σ=[o0,o1,o2,o3,o4]:=by
 cases σ with
 |nil=>cases h
 |cons a σ=>
 replace h:=F5 h;cases σ with
 |nil=>cases h
 |cons b σ=>
 replace h:=F5 h;cases σ with
 |nil=>cases h
 |cons c σ=>
 replace h:=F5 h;cases σ with
 |nil=>cases h
 |cons d σ=>
 replace h:=F5 h;cases σ with
 |nil=>cases h
 |cons e σ=>
 replace h:=F5 h;cases σ with
 |nil=>exact⟨a,b,c,d,e,rfl⟩
 |cons x σ=>cases h
noncomputable def se(k c:Int):Int:=1+(k*7919+c) % 9973*(if c / 9973 % 2=0 then 1 else 100003)
theorem Bh{i j:Nat}{c:Int}(hi:i<13)(hj:j<13)(e:se (i:Nat) c=se (j:Nat) c):i=j:=by
 unfold se at e;have h:((i:Int)*7919+c) % 9973=((j:Int)*7919+c) % 9973:=by split at e<;>lia
 omega
theorem CQ(c:Int):((List.range 13).map fun k:Nat=>se (k:Nat) c).Nodup:=by rw[List.Nodup,GI];refine List.Pairwise.imp_of_mem ?_ List.nodup_range;intro a b ha hb ne e;exact ne (Bh (F9.mp ha) (F9.mp hb) e)
theorem kI{f:Nat->Option Col}{R:cf}(h:bj f R){q:Nat×Col}(hq:q∈R):∃i,i<64/\f i=some q.2:=by obtain⟨q1,q0,qb⟩:=h.ok q hq;have l1:bW q.1<64:=gB q1 (by decide) q0;exact⟨_,l1,(qb _ l1).mp (cE q1 q0).1⟩
theorem AI{f:Nat->Option Col}{R:cf}{C1 C2:Col}(h:bj f R)(hc:∀i c,f i=some c->c=C1\/c=C2):R.length<=2:=by
 have:=Gb h.nd (l₂:=[C1,C2]) fun c hc'=>by obtain⟨q,hq,rfl⟩:=Fp.mp hc';obtain⟨i,_,e⟩:=kI h hq;rcases hc i _ e with e|e<;>rw[e]<;>simp
 rwa[Fm]at this
theorem CB{ss:List Str}{rs:List (List Key)}{p:Plt}(o:vU ss rs p)(hb:∀r∈rs,du r)(l13:rs.length=13)(nd:(rs.map av).Nodup)(cn:∀q∈p.R,(q.2.map av).Nodup)(l2:p.R.length<=2):PlG rs p:=by
 obtain⟨f,h1,h2,h3⟩:=o.st;have sub:∀q∈p.R,q.2.length<=12/\∀r∈q.2,r∈rs:=fun q hq=>by obtain⟨i,_,e⟩:=kI h1 hq;exact h3 i _ e
 exact⟨⟨by lia,fun q hq=>(sub q hq).2,by lia,hb,nd,fun q hq=>⟨fun r hr=>hb r ((sub q hq).2 r hr),cn q hq,by have:=(sub q hq).1;lia⟩⟩,f,h1,h2⟩
theorem Eg:∀d,d<12->∀s,s<13->d≠0->s≠0->d*s % 13≠0:=by decide
theorem Du{rs C:List (List Key)}{a s n:Nat}(nd:(rs.map av).Nodup)(hl:rs.length=13)(lC:C.length=n)(hn:n<=12)(hs:1<=s/\s<=12)(ix:∀t,t<n->C[t]?=rs[(a+t*s) % 13]?):(C.map av).Nodup:=by
 rw[List.Nodup,List.pairwise_iff_getElem];intro i j hi hj lt e;rw[Fm]at hi hj;rw[List.getElem_map,List.getElem_map]at e;have m1:(a+i*s) % 13<rs.length:=by rw[hl];exact Nat.mod_lt _ (by decide)
 have m2:(a+j*s) % 13<rs.length:=by rw[hl];exact Nat.mod_lt _ (by decide)
 have e1:=ix i (by lia);have e2:=ix j (by lia);rw[Fy hi,Fy m1]at e1;rw[Fy hj,Fy m2]at e2;rw[F0 e1,F0 e2]at e;have e3:(rs.map av)[(a+i*s) % 13]'(by rw[Fm];exact m1)=(rs.map av)[(a+j*s) % 13]'(by rw[Fm];exact m2):=by rw[List.getElem_map,List.getElem_map];exact e
 have pw:=List.pairwise_iff_getElem.mp nd;have e4:(a+i*s) % 13=(a+j*s) % 13:=by
  rcases Nat.lt_trichotomy ((a+i*s) % 13) ((a+j*s) % 13)with y|y|y
  ·exact absurd e3 (pw _ _ _ _ y)
  ·exact y
  ·exact absurd e3.symm (pw _ _ _ _ y)
 obtain⟨d,rfl⟩:∃d,j=i+d:=⟨j-i,by lia⟩;have:=Eg d (by lia) s (by lia) (by lia) (by lia);rw[Nat.add_mul]at e4
 lia
theorem BM{K:Frag}{H:Hp}{v:V}{r:List Key}(h:bS K H v r):IsD K H (jK r) v/\(jK r).canLay0=true:=by obtain⟨lay,a,rfl,ha⟩:=h;exact⟨.tup ha (oF _),sx r lay⟩
theorem tS{n:Int}:∀{T:Col},(T.Pairwise fun a b=>av a<av b)->
  (T.filter (fun r=>decide (av r=n))=[]/\∀r∈T,av r≠n)\/∃r∈T,av r=n/\T.filter (fun r=>decide (av r=n))=[r]
 | [],_=>.inl ⟨rfl,fun _ z=>nomatch z⟩
 |a::T,h=>by
  rw[List.pairwise_cons]at h;by_cases z:av a=n
  ·refine .inr ⟨a,Fw ..,z,?_⟩;rw[List.filter_cons_of_pos (by simpa using z)];congr 1;rw[List.filter_eq_nil_iff];intro r hr;have:=h.1 r hr;have:av r≠n:=(by lia);simpa using this
  ·rw[List.filter_cons_of_neg (by simpa using z)];rcases tS h.2 with⟨e,h1⟩|⟨r,hr,e,h1⟩
   ·refine .inl ⟨e,fun r hr=>?_⟩;rcases FL.mp hr with y|y
    ·rw[y];exact z
    ·exact h1 r y
   ·exact .inr ⟨r,Ft _ hr,e,h1⟩
noncomputable def f64(f:Nat->Option Col):Nat->Option Col:=fun i=>if i<64 then f i else none
theorem wU{f:Nat->Option Col}{R:cf}(h:bj f R):bj (f64 f) R:=by have e:∀i,i<64->f64 f i=f i:=fun i hi=>FH hi;refine⟨h.nd,fun p hp=>⟨(h.ok p hp).1,(h.ok p hp).2.1,fun i hi=>by rw[e i hi];exact(h.ok p hp).2.2 i hi⟩,fun i c hi hc=>?_,h.so⟩;rw[e i hi]at hc;exact h.all i c hi hc
theorem wV(f:Nat->Option Col):∀i,64<=i->f64 f i=none:=fun i hi=>FA (by lia)
theorem nY(a b:Int):PyData.eqv (.int a) (.int b)=decide (a=b):=by
 have h:=sL (.inl a) (.inl b);have e:(decide ((Sum.inl a:Key)=Sum.inl b))=decide (a=b):=by
  by_cases z:a=b
  ·simp[z]
  ·simp[z]
 rw[e]at h;exact h
theorem gF{K:Frag}{H:Hp}:∀(l:List Int),d5 K H (l.map PyData.int) (l.map V.int)
 | []=>.nil
 |_::l=>.cons (.int _) (gF l)
theorem gC:∀(l:List Int),PyData.canLayAll0 (l.map PyData.int)=true
 | []=>rfl
 |_::l=>by show(_&&PyData.canLayAll0 (l.map PyData.int))=true;rw[gC l];rfl
theorem mj(l:List Int)(x:Int):((l.map PyData.int).any fun e=>PyData.eqv e (.int x))=decide (x∈l):=by
 rw[List.any_map]
 induction l with
 |nil=>simp
 |cons y ys ih=>
  rw[GQ,ih];show(PyData.eqv (.int y) (.int x)||_)=_;rw[nY];by_cases z:x=y
  ·subst z;simp
  ·have z':¬y=x:=fun w=>z w.symm;simp[z,z']
theorem zK{c:Col}{n:Int}(h:n∈c.map av):∃i,ff n c i:=by
 induction c with
 |nil=>cases h
 |cons a c ih=>
  by_cases z:av a=n
  ·exact⟨0,a,rfl,z,fun j r' hj=>absurd hj (Nat.not_lt_zero _)⟩
  ·have h':n∈c.map av:=by
    rcases FL.mp h with w|w
    ·exact absurd w.symm z
    ·exact w
   obtain⟨i,r,hr,e,hb⟩:=ih h';refine⟨i+1,r,hr,e,fun j r' hj hr'=>?_⟩
   match j,hj,hr' with
   | 0,_,hr'=>cases hr';exact z
   |j+1,hj,hr'=>exact hb j r' (by lia) hr'
theorem lR{ps:List Plt}{c:Nat}{p:Plt}(h:fnd ps c=some p):p∈ps/\p.g.testBit c=true:=⟨List.mem_of_find?_eq_some h,List.find?_some (p:=fun p:Plt=>p.g.testBit c) h⟩
theorem wW:∀{ps:List Plt}{c:Nat},(ps.map (·.g)).Pairwise Dis->∀p∈ps,∀q∈ps,p.g.testBit c=true->q.g.testBit c=true->p=q
 | [],_,_,_,hp,_,_,_,_=>nomatch hp
 |a::ps,c,ap,p,hp,q,hq,h1,h2=>by
  rw[FG,List.pairwise_cons]at ap;rcases FL.mp hp with e1|hp'
  ·rcases FL.mp hq with e2|hq'
   ·rw[e1,e2]
   ·rw[e1]at h1;exact absurd ⟨h1,h2⟩ (ap.1 _ (Fp.mpr ⟨q,hq',rfl⟩) c)
  ·rcases FL.mp hq with e2|hq'
   ·rw[e2]at h2;exact absurd ⟨h2,h1⟩ (ap.1 _ (Fp.mpr ⟨p,hp',rfl⟩) c)
   ·exact wW ap.2 p hp' q hq' h1 h2
theorem wQ{ps:List Plt}{c:Nat}(ap:(ps.map (·.g)).Pairwise Dis):fnd ps.reverse c=fnd ps c:=by
 cases h:fnd ps c with
 |none=>have:=G7.mp h;exact G7.mpr fun x hx=>this x (List.mem_reverse.mp hx)
 |some p=>
  obtain⟨m1,b1⟩:=lR h;cases k:fnd ps.reverse c with
  |none=>exact absurd b1 (G7.mp k p (List.mem_reverse.mpr m1))
  |some q=>obtain⟨m2,b2⟩:=lR k;rw[wW ap q (List.mem_reverse.mp m2) p m1 b2 b1]
theorem cK.rev{ps:List Plt}{c:Nat}{n num:Int}{sg:List Str}{o:kE}(ap:(ps.map (·.g)).Pairwise Dis)(h:cK ps.reverse c n num sg o):cK ps c n num sg o:=by unfold cK at h ⊢;rwa[wQ ap]at h
theorem eU.rev{ps:List Plt}{c:Nat}{n h num:Int}{sg:List Str}{o:kE}(ap:(ps.map (·.g)).Pairwise Dis)(k:eU ps.reverse c n h num sg o):eU ps c n h num sg o:=by unfold eU at k ⊢;rwa[wQ ap]at k
theorem AJ{f f':Nat->Option Col}{R:cf}(h:bj f R)(k:bj f' R):∀i,i<64->f i=f' i:=fun i hi=>by
 cases e:f i with
 |some c=>obtain⟨p,hp,rfl⟩:=Fp.mp (h.all i c hi e);exact(((k.ok p hp).2.2 i hi).mp (((h.ok p hp).2.2 i hi).mpr e)).symm
 |none=>
  cases e':f' i with
  |none=>rfl
  |some c=>obtain⟨p,hp,rfl⟩:=Fp.mp (k.all i c hi e');rw[((h.ok p hp).2.2 i hi).mp (((k.ok p hp).2.2 i hi).mpr e')]at e;cases e
theorem wa{f f':Nat->Option Col}{R R1 R2:cf}{F:Col->Col}(h:bj f R)(k:bj f' R)(h1:bj (fun i=>(f i).map F) R1)(h2:bj (fun i=>(f' i).map F) R2):R1=R2:=
 h1.uniq (h2.congr fun i hi=>by rw[AJ h k i hi])
theorem Be{rs:List (List Key)}{R:cf}(N:jw rs R){r r':List Key}(h:OnR R r)(k:OnR R r')(e:av r=av r'):r=r':=by obtain⟨q,hq,hr⟩:=h;obtain⟨q',hq',hr'⟩:=k;exact mI N.nd r (N.sub q hq r hr) r' (N.sub q' hq' r' hr') e
theorem cK.uniq{ps:List Plt}{rs:List (List Key)}{c:Nat}{n num:Int}{sg:List Str}{o o':kE}(hG:∀p∈ps,PlG rs p)(h:cK ps c n num sg o)(k:cK ps c n num sg o'):o=o':=by
 unfold cK at h k;cases e:fnd ps c with
 |none=>rw[e]at h k;exact Eq.trans h k.symm
 |some p=>
  rw[e]at h k;rcases h with⟨h1,rfl⟩|⟨r,h2,h3,h4⟩
  ·rcases k with⟨_,rfl⟩|⟨r',k2,k3,_⟩
   ·rfl
   ·exact absurd k3 (h1 r' k2)
  rcases k with⟨k1,_⟩|⟨r',k2,k3,k4⟩
  ·exact absurd h3 (k1 r h2)
  obtain rfl:r=r':=Be (hG p (lR e).1).nm h2 k2 (by rw[h3,k3]);rcases h4 with⟨a1,rfl⟩|⟨a1,f,R',a2,a3,rfl⟩
  ·rcases k4 with⟨_,rfl⟩|⟨b1,_⟩
   ·rfl
   ·exact absurd b1 a1
  ·rcases k4 with⟨b1,_⟩|⟨_,f',R2,b2,b3,rfl⟩
   ·exact absurd a1 b1
   ·rw[wa a2 b2 a3 b3]
theorem eU.uniq{ps:List Plt}{c:Nat}{n h num:Int}{sg:List Str}{o o':kE}(a:eU ps c n h num sg o)(k:eU ps c n h num sg o'):o=o':=by
 unfold eU at a k;cases e:fnd ps c with
 |none=>rw[e]at a k;exact Eq.trans a k.symm
 |some p=>
  rw[e]at a k;rcases a with⟨a1,rfl⟩|⟨⟨r,x1,x2⟩,⟨r',y1,y2⟩,T,a3,a4⟩
  ·rcases k with⟨_,rfl⟩|⟨⟨r,x1,x2⟩,⟨r',y1,y2⟩,_⟩
   ·rfl
   ·exact(a1.elim (fun z=>z r x1 x2) (fun z=>z r' y1 y2)).elim
  rcases k with⟨k1,_⟩|⟨_,_,T',k3,k4⟩
  ·exact(k1.elim (fun z=>z r x1 x2) (fun z=>z r' y1 y2)).elim
  obtain rfl:T=T':=a3.uniq k3;rcases a4 with⟨b1,rfl⟩|⟨x,b1,rfl⟩|⟨b0,b1,f,R',b2,b3,rfl⟩
  ·rcases k4 with⟨_,rfl⟩|⟨x,c1,rfl⟩|⟨c1,_⟩
   ·rfl
   ·rw[b1]at c1;cases c1
   ·exact absurd b1 c1
  ·rcases k4 with⟨c1,_⟩|⟨x',c1,rfl⟩|⟨_,c1,_⟩
   ·rw[c1]at b1;cases b1
   ·rw[b1]at c1;cases c1;rfl
   ·rw[b1]at c1;cases c1
  ·rcases k4 with⟨c1,_⟩|⟨x,c1,_⟩|⟨_,_,f',R2,c2,c3,rfl⟩
   ·exact absurd c1 b0
   ·rw[b1]at c1;cases c1
   ·rw[wa b2 c2 b3 c3]
theorem wu{p q:Plt}(h:Pln (plD p))(k:Pln (plD q)):Pln (outD (.does p q)):=
 .tup (FF rfl) (.cons (.str _) (.cons (.tup (FF rfl) (.cons (.tup (FF rfl) (.cons h .nil)) (.cons (.tup (FF rfl) (.cons k .nil)) (.cons (.tup (FF rfl) .nil) .nil)))) .nil))
theorem gw(w x:Str):Pln (outD (.falls w x)):=.tup (FF rfl) (.cons (.str _) (.cons (.str _) (.cons (.str _) .nil)))
theorem yZ{g:Nat}{S:Sh}{R:cf}{num:Int}{f:Nat->Option Col}{F:Col->Col}(hS:S.length<=1000)(h:bj (fun i=>(f i).map F) R)(hc:∀i c,i<64->f i=some c->(F c).length<=1000/\∀r∈F c,r.length<=1000):Pln (plD ⟨g,S,R,num⟩):=by
 have b:Pln (tK R):=.tup (by rw[Fm];exact FW h.len (by decide)) (jy fun d hd=>by
  obtain⟨q,hq,rfl⟩:=Fp.mp hd;obtain⟨i,hi,e⟩:=kI h hq;have e':(f i).map F=some q.2:=e;obtain⟨c,e1,e2⟩:=Option.map_eq_some_iff.mp e';obtain⟨c1,c2⟩:=hc i c hi e1;rw[e2]at c1 c2
  exact .tup (FF rfl) (.cons (.int _) (.cons (wx c1 c2) .nil)))
 exact .tup (FF rfl) (.cons (.int _) (.cons (wt hS) (.cons b (.cons (.int _) .nil))))
theorem zW(o:kE):(outD o).depth<=10:=by
 cases o with
 |falls w x=>exact FF rfl
 |does p q=>have a:=sR p;have b:=sR q;show max (PyData.str _).depth (max (max (max (plD p).depth 0+1) (max (max (plD q).depth 0+1) (max (0+1) 0))+1) 0)+1<=10;have c:(PyData.str "does").depth<=9:=FF rfl;have hm:∀{a b n:Nat},a<=n->b<=n->max a b<=n:=fun h k=>Nat.max_le.mpr ⟨h,k⟩;have a7:=FW a (show 6<=7 by decide);have b7:=FW b (show 6<=7 by decide);exact Nat.succ_le_succ (hm c (hm (Nat.succ_le_succ (hm (Nat.succ_le_succ (hm a7 (F1 _))) (hm (Nat.succ_le_succ (hm b7 (F1 _))) (by decide)))) (F1 _)))
theorem wK{rs:List (List Key)}{p:Plt}(G:PlG rs p){f:Nat->Option Col}(h:bj f p.R):∀i c,i<64->f i=some c->GoodC c:=fun i c hi e=>by obtain⟨q,hq,e2⟩:=Fp.mp (h.all i c hi e);rw[<-e2];exact G.nm.good q hq
theorem cK.pln{ps:List Plt}{rs:List (List Key)}{c:Nat}{n num:Int}{sg:List Str}{o:kE}(hG:∀p∈ps,PlG rs p)(hp:∀p∈ps,Pln (plD p))(hS:∀p∈ps,p.S.length<=1000)(h:cK ps c n num sg o):Pln (outD o):=by
 unfold cK at h;cases e1:fnd ps c with
 |none=>rw[e1]at h;rw[show o=_ from h];exact gw _ _
 |some p=>
  have m:=(lR e1).1;rw[e1]at h;rcases h with⟨_,rfl⟩|⟨r,_,_,⟨_,rfl⟩|⟨_,f,R',h5,h6,rfl⟩⟩
  ·exact gw _ _
  ·exact gw _ _
  refine wu (hp p m) (yZ (hS p m) h6 fun i c hi e=>?_);have g:=wK (hG p m) h5 i c hi e;refine⟨FW (GV _ _) (by have:=g.2.2;lia),fun r hr=>(g.1 r (List.mem_filter.mp hr).1).xT⟩
theorem eU.pln{ps:List Plt}{rs:List (List Key)}{c:Nat}{n h num:Int}{sg:List Str}{o:kE}(hG:∀p∈ps,PlG rs p)(hp:∀p∈ps,Pln (plD p))(hS:∀p∈ps,p.S.length<=1000)(k:eU ps c n h num sg o):Pln (outD o):=by
 unfold eU at k;cases e1:fnd ps c with
 |none=>rw[e1]at k;rw[show o=_ from k];exact gw _ _
 |some p=>
  have m:=(lR e1).1;rw[e1]at k;rcases k with⟨_,rfl⟩|⟨_,_,T,_,⟨_,rfl⟩|⟨x,_,rfl⟩|⟨_,_,f,R',h9,h10,rfl⟩⟩
  ·exact gw _ _
  ·exact gw _ _
  ·exact gw _ _
  refine wu (hp p m) (yZ (hS p m) h10 fun i c hi e=>?_);have g:=wK (hG p m) h9 i c hi e;have pm:=yD (n:=n) (h:=h) g.2.1;refine⟨by rw[pm.length_eq];have:=g.2.2;omega,fun r hr=>(g.1 r (pm.mem_iff.mp hr)).xT⟩
def KF(kv:Key×V)(r:List Key):Prop:=kv=(.inl (av r),.str (cz r))
theorem C6{n:Int}{kvs:List (Key×V)}{D:List (List Key)}(hI:Paired KF kvs D):(kvs.any fun kv=>decide (kv.1=.inl n))=D.any fun d=>decide (av d=n):=by
 induction hI with
 |nil=>exact rfl
 | @cons kv d _ _ a b ih=>
  rw[GQ,GQ,ih,show kv.1=.inl (av d) by rw[show kv=_ from a]];congr 1;by_cases h:av d=n
  ·rw[h,FQ rfl,FQ rfl]
  ·rw[FY h,FY (fun z=>h (Sum.inl.inj z))]
theorem C5{r:List Key}{kvs:List (Key×V)}{D:List (List Key)}(hI:Paired KF kvs D):(∀d∈D,av d=av r->d=r)->Paired KF (kvs.map fun kv=>if kv.1=.inl (av r)then(kv.1,.str (cz r))else kv) D:=by
 induction hI with
 |nil=>exact fun _=>.nil
 | @cons kv d _ _ a b ih=>
  intro hu;rw[FG];refine .cons ?_ (ih fun d' hd'=>hu d' (Ft _ hd'));have a1:kv.1=.inl (av d):=by rw[show kv=_ from a]
  by_cases h:kv.1=.inl (av r)
  ·rw[FH h];have e:av d=av r:=Sum.inl.inj (a1.symm.trans h);have:=hu d (Fw ..) e;subst this;show(kv.1,_)=_;rw[a1]
  ·rw[FA h];exact a
theorem C4{r:List Key}{kvs:List (Key×V)}{D:List (List Key)}(h:Paired KF kvs D)(hu:∀d∈D,av d=av r->d=r):Paired KF (putK kvs (.inl (av r)) (.str (cz r))) (mY D r):=by
 unfold putK mY;rw[C6 h];split
 ·exact C5 h hu
 ·exact Paired.app h (.cons rfl .nil)
theorem C3{n:Int}{kvs:List (Key×V)}{D:List (List Key)}(hI:Paired KF kvs D):n∈D.map av->∃r,eK kvs (.inl n)=some (.str (cz r))/\r∈D/\av r=n:=by
 induction hI with
 |nil=>exact fun h=>by cases h
 | @cons kv d _ _ a b ih=>
  intro h;have a1:kv.1=.inl (av d):=by rw[show kv=_ from a]
  have a2:kv.2=.str (cz d):=by rw[show kv=_ from a]
  by_cases z:av d=n
  ·exact⟨d,by rw[cL (by rw[a1,z]),a2],Fw ..,z⟩
  ·rw[FG]at h;rcases FL.mp h with w|w
   ·exact absurd w.symm z
   ·obtain⟨r,h1,h2,h3⟩:=ih w;exact⟨r,by rw[cM (fun y=>z (Sum.inl.inj (a1.symm.trans y)))];exact h1,Ft _ h2,h3⟩
theorem Bs{kvs:List (Key×V)}{D:List (List Key)}(hI:Paired KF kvs D):(kvs.map fun q=>kV q.1)=(D.map av).map V.int:=by
 induction hI with
 |nil=>exact rfl
 | @cons kv d _ _ a b ih=>rw[FG,FG,FG,ih,show kv.1=.inl (av d) by rw[show kv=_ from a]];rfl
theorem yj{C:List Col}{D:List (List Key)}(nd:(D.map av).Nodup)(hD:∀r,r∈D<->∃c∈C,r∈c){ns:List Int}(pm:ns.Perm (D.map av))(so:ns.Pairwise (·<=·)):∃T,T.map av=ns/\(∀r∈T,r∈D)/\ml C T:=by
 have ex:∀l:List Int,(∀n∈l,n∈D.map av)->∃T:Col,T.map av=l/\∀r∈T,r∈D:=by
  intro l
  induction l with
  |nil=>exact fun _=>⟨[],rfl,fun _ z=>nomatch z⟩
  |cons n l ih=>
   intro h;obtain⟨T,e,hT⟩:=ih fun m hm=>h m (Ft _ hm);obtain⟨r,hr,e2⟩:=Fp.mp (h n (Fw ..));refine⟨r::T,by rw[FG,e,e2],fun x hx=>?_⟩;rcases FL.mp hx with y|y
   ·rw[y];exact hr
   ·exact hT x y
 obtain⟨T,e,hT⟩:=ex ns fun n hn=>pm.mem_iff.mp hn;exact⟨T,e,hT,Ah nd hD pm so e hT⟩
theorem uQ{H H':Hp}{D:Addr}{kvs:List (Key×V)}(e:∀b,b≠D->H' b=H b)(hD:H D=some (.dK kvs)):TK H H':=
 ⟨fun _ _ h=>by rw[e _ (gU h hD (fun z=>nomatch z))];exact h,fun _ _ _ h=>by rw[e _ (gU h hD (fun z=>nomatch z))];exact h⟩
end L2
namespace L2
open PySem PySem.Spec PyProof.Rows
theorem lH{n:Nat}{P:List Value->Prop}(h:∀a us,us.length=n->P (a::us))(us:List Value)(e:us.length=n+1):P us:=by
 cases us with
 |nil=>cases e
 |cons a us=>exact h a us (F5 e)
theorem lenZ{P:List Value->Prop}(h:P [])(us:List Value)(e:us.length=0):P us:=by
 cases us with
 |nil=>exact h
 |cons a us=>cases e
end L2
namespace L2
open PySem PySem.Spec PyProof.Rows LM
theorem Ei{d:Value}{n:Nat}{P:List Value->Prop}(h:∀us,us.length=n->P us):∀us,(us++[d]).length=n+1->P us:=fun us e=>h us (by
 rw[Fz]at e
 exact F5 e)
end L2
namespace LT
open PySem PySem.Spec PyProof.Rows L2
section
variable[KN]{prog:Program}{w:World}{A:Around}{E:Value->Shared->Prop}{s:Shared}[uL prog w A E s]{a₀:Array Keyed}{z:SortSt}{lo:Nat}
theorem yA{st:SortSt}{nrem:Nat}{Q:Option Nat->SortSt->Prop}(h0:pL a₀)(hB:SA a₀ z lo st)(hn:lo+nrem<=a₀.size)(h1:1<=nrem)(hs:kD (arrOf st) lo nrem)(h:Q (some nrem) st):wpS (model prog w) A E s (countRun' lo nrem) Q st:=by
 rw[countRun'_eq];have one:kD (arrOf st) lo 1:=fun i j hij hj=>by
  have e:i=j:=by omega
  subst e;exact Int.le_refl _
 refine Gd (qV (fun _ _=>rfl) (fun _ _=>rfl) h0 hB hn (Fv 1) h1 one fun n n1 n2 sn hor=>?_);dsimp only;have e:n=nrem:=by
  rcases hor with e|e
  ·exact e
  ·by_cases c:n=nrem
   ·exact c
   ·have:=hs (n-1) n (by lia) (by lia);rw[show lo+(n-1)=lo+n-1 by lia]at this
    lia
 subst e;rw[FH (by simp)];exact GO h
theorem sr{n:Nat}(h:n<64)(h1:1<=n):minRun' n n 0=n:=by
 cases n with
 |zero=>lia
 |succ k=>show(if k+1<64 then k+1+0 else _)=_;rw[FH h]
theorem mZ{st:SortSt}{Q:Unit->SortSt->Prop}(h0:pL a₀)(pm:(arrOf st).Perm a₀)(kd:kindOf st=kd0)(fl:failedOf st=none)(pd:pendingOf st= #[])(h2:1<=a₀.size)(hor:a₀.size<64\/SortedTo (arrOf st) a₀.size)
  (h:∀st',(arrOf st').Perm a₀->failedOf st'=none->SortedTo (arrOf st') a₀.size->Q () st'):wpS (model prog w) A E s sortRuns' Q st:=by
 rw[sortRuns'_eq];refine Gd (wpS_get ?_);dsimp only;have sz:(arrOf st).size=a₀.size:=pm.size_eq;rw[sz];refine Gd (wpS_mono (wpS_forRange (I:=fun x c st'=>(x=0/\c=(none,0)/\st'=st)\/(c=(none,a₀.size)/\(arrOf st').Perm a₀/\failedOf st'=none/\SortedTo (arrOf st') a₀.size/\(pendingOf st').size<=1)) (Q:=fun c st'=>c=(none,a₀.size)/\(arrOf st').Perm a₀/\failedOf st'=none/\SortedTo (arrOf st') a₀.size/\(pendingOf st').size<=1) ?step ?fin (.inl ⟨rfl,rfl,rfl⟩)) ?post)
 case fin=>
  rintro c st' (⟨e,_⟩|y)
  ·exfalso;lia
  ·exact y
 case step=>
  rintro x c st1 _ hx (⟨_,rfl,rfl⟩|⟨rfl,y⟩)
  ·dsimp only;rw[FA (by lia)];have B1:SA a₀ st1 0 st1:=⟨pm,kd,fl,rfl,fun _ _=>rfl⟩
   have key:∀st3:SortSt,SA a₀ st1 0 st3->kD (arrOf st3) 0 a₀.size->pendingOf st3= #[]/\SortedTo (arrOf st3) a₀.size:=fun st3 B3 sn=>⟨B3.pend.trans pd,fun i j hij hj=>by
    have:=sn i j hij hj;rw[G4,G4]at this
    exact this⟩
   rcases hor with h64|so
   ·refine Gd (Ax h0 B1 (by lia) (by lia) fun m st2 B2 m1 m2 sn2=>?_);dsimp only;rw[sr h64 h2];by_cases c2:m<a₀.size
    ·rw[FH c2];refine Gd (wpS_lift (wpAny_rule ⟨rfl,?_⟩));rw[show min (a₀.size-0) a₀.size=a₀.size by lia];refine Gd (qo h0 (by lia) (by lia) B2 sn2 fun st3 B3 sn3=>?_)
     try dsimp only
     rw[FA (by decide)];obtain⟨pe,so⟩:=key st3 B3 sn3;refine Gd (wpS_get ?_);rw[pe];refine Gd (wpS_modify (GO (.inr ⟨by rw[G4],B3.perm,B3.failed,so,?_⟩)));show((pendingOf st3).push _).size<=1;rw[pe];exact Fv _
    ·rw[FA c2];have:m=a₀.size:=(by lia);subst this;obtain⟨pe,so⟩:=key st2 B2 sn2;refine Gd (wpS_get ?_);rw[pe];refine Gd (wpS_modify (GO (.inr ⟨by rw[G4],B2.perm,B2.failed,so,?_⟩)));show((pendingOf st2).push _).size<=1;rw[pe];exact Fv _
   ·refine Gd (yA h0 B1 (by omega) (by omega) (fun i j hij hj=>?_) ?_)
    ·rw[G4,G4];exact so i j hij (by lia)
    dsimp only;have sn0:kD (arrOf st1) 0 (a₀.size-0):=fun i j hij hj=>by rw[G4,G4];exact so i j hij (by omega)
    by_cases c2:a₀.size-0<minRun' a₀.size a₀.size 0
    ·rw[FH c2];refine Gd (wpS_lift (wpAny_rule ⟨rfl,?_⟩));rw[show min (a₀.size-0) (minRun' a₀.size a₀.size 0)=a₀.size by lia];refine Gd (qo h0 (by omega) (by lia) B1 sn0 fun st3 B3 sn3=>?_)
     try dsimp only
     rw[FA (by decide)];obtain⟨pe,so⟩:=key st3 B3 sn3;refine Gd (wpS_get ?_);rw[pe];refine Gd (wpS_modify (GO (.inr ⟨by rw[G4],B3.perm,B3.failed,so,?_⟩)));show((pendingOf st3).push _).size<=1;rw[pe];exact Fv _
    ·rw[FA c2];refine Gd (wpS_get ?_);rw[pd];refine Gd (wpS_modify (GO (.inr ⟨by rw[G4];rfl,pm,fl,so,?_⟩)));show((pendingOf st1).push _).size<=1;rw[pd];exact Fv _
  ·dsimp only;rw[FH (by lia)];exact GO ⟨rfl,y⟩
 case post=>
  rintro c st1 ⟨rfl,p1,p2,p3,p4⟩;dsimp only;refine Gd (wpS_mono (wpS_forRange (I:=fun x c st'=>c=(none,())/\st'=st1) (Q:=fun c st'=>c=(none,())/\st'=st1) ?fstep ?ffin ⟨rfl,rfl⟩) ?fpost)
  case ffin=>exact fun c st' y=>y
  case fstep=>rintro x c st' _ hx ⟨rfl,rfl⟩;refine Gd (wpS_get ?_);rw[FH p4];exact GO ⟨rfl,rfl⟩
  case fpost=>rintro c st' ⟨rfl,rfl⟩;exact GO (h _ p1 p2 p3)
end
section
variable{prog:Program}{w:World}{A:Around}{E:Value->Shared->Prop}{s:Shared}
theorem rh{vs:List Value}{ns:List Int}(hI:IntsAre vs ns)(up:ns.Pairwise (·<=·)): @SortedTo knI (pairsOf vs) (pairsOf vs).size:=by
 have at_:∀{vs:List Value}{ns:List Int},IntsAre vs ns->∀i,i<vs.length->∃n t,vs[i]?=some (.int n t)/\ns[i]?=some n:=by
  intro vs ns h
  induction h with
  |nil=>exact fun i hi=>nomatch hi
  |cons n t _ ih=>
   intro i hi;cases i with
   |zero=>exact⟨n,t,rfl,rfl⟩
   |succ i=>exact ih i (Nat.lt_of_succ_lt_succ hi)
 have kat:∀i,i<vs.length->∃n,ns[i]?=some n/\ @K knI (pairsOf vs) i=n:=fun i hi=>by obtain⟨n,t,e1,e2⟩:=at_ hI i hi;refine⟨n,e2,?_⟩;unfold K;rw[<-GW,pairsOf_toList,(List.getElem?_zip_eq_some (z:=((Value.int n t:Value),(Value.int n t:Value)))).mpr ⟨e1,e1⟩];rfl
 intro i j hij hj;rw[pairsOf_size]at hj;obtain⟨n,e1,k1⟩:=kat i (by lia);obtain⟨m,e2,k2⟩:=kat j hj;rw[k1,k2];rcases Nat.lt_or_eq_of_le hij with c|c
 ·obtain⟨g1,q1⟩:=FD.mp e1;obtain⟨g2,q2⟩:=FD.mp e2;rw[<-q1,<-q2];exact List.pairwise_iff_getElem.mp up i j g1 g2 c
 ·subst c;rw[e1]at e2;cases e2;exact Int.le_refl _
theorem uU{a:Addr}{vs:List Value}{ns:List Int}{n:Nat}{P:PySem.Fin->Shared->Prop}(ho:s.heap.get? a=some (seqObj "list" vs.toArray n))(hI:IntsAre vs ns)(h64:vs.length<1000)(up:ns.Pairwise (·<=·))
  (h:∀(out:Array Value)(ns':List Int),IntsAre out.toList ns'->ns'.Perm ns->ns'.Pairwise (·<=·)->P (.done (.ret .none)) {s with heap:=sortedHeap s.heap a vs out}):
  wpAny (model prog w) A (Builtin.«list.sort» ⟨[.ref a],[]⟩) P E s:=by
 by_cases l64:vs.length<64
 ·exact list_sort_tree ho hI l64 h
 rw[list_sort_plain];have ha:a<s.heap.objs.size:=FI ho;refine Fl (listItems_at ho rfl ?_);refine Fl (listUpdate_at ho rfl ?_ (by rw[Fu,Gm];lia) (F1 _));obtain⟨e1,ho1⟩:∃e1,(s.heap.update a (Obj.mapSeq fun _=> #[])).get? a=some (seqObj "list" #[] e1):=⟨_,get?_update_seq ho (fun _=> #[])⟩;refine Fl (seqEpoch_at ho1 rfl ?_);refine Fl (wpAny_newTuple ?_ (by show vs.length<=_;rw[Gm];omega));refine Fl (wpAny_newList ?_ (F1 _));refine Gx ?_;have ho6:(((s.heap.update a (Obj.mapSeq fun _=> #[])).push (seqObj "tuple" vs.toArray 0)).push (seqObj "list" #[] 0)).get? a=some (seqObj "list" #[] e1):=Fn _ (Fn _ ho1);show wpAny (model prog w) A _ P E {s with heap:=((s.heap.update a (Obj.mapSeq fun _=> #[])).push (seqObj "tuple" vs.toArray 0)).push (seqObj "list" #[] 0)};dsimp only;have h2:¬vs.toArray.size<2:=by rw[Fu];lia
 rw[FA h2,FA h2];have kk:keyKind' vs.toArray=pure oneType':=by
  match vs,h2,hI with
  | [],h2,_=>simp at h2
  | [_],h2,_=>simp at h2
  |v1::v2::rest,_,hI=>exact keyKind_ints hI
 rw[kk];refine Fl (Fo ?_);letI:=knI;haveI:uL prog w A E {s with heap:=((s.heap.update a (Obj.mapSeq fun _=> #[])).push (seqObj "tuple" vs.toArray 0)).push (seqObj "list" #[] 0)}:=zp;refine Fl (F8 (mZ (a₀:=pairsOf vs) (st:=SortSt.mk' oneType' (vs.toArray.zip vs.toArray) #[] 7 none) (Q:=fun _ st'=>(arrOf st').Perm (pairsOf vs)/\failedOf st'=none/\SortedTo (arrOf st') (pairsOf vs).size) (fun p hp=>?_) (Array.Perm.refl _) rfl rfl rfl (by rw[pairsOf_size];lia) (.inr (rh hI up)) fun st' q1 q2 q3=>⟨q1,q2,q3⟩) ?_ fun _ _ e=>e)
 ·rw[pairsOf_toList]at hp;exact hI.all _ (mem_zip_self hp).2
 rintro⟨⟨⟩,st'⟩ s' ⟨rfl,hp,hf,hs⟩;dsimp only;obtain⟨ns',i1,i2,i3⟩:=sorted_out hI hp hs;refine Fl (seqEpoch_at ho6 rfl ?_);refine Fl (listUpdate_at ho6 rfl ?_ (F1 _) (by rw[Array.size_map,hp.size_eq,pairsOf_size,Gm];lia));rw[hf];simp only[bne_self_eq_false,Gk,if_false];exact Fo (h _ ns' i1 i2 i3)
end
section
variable{X:Cx}
theorem kA(hc:X.calm=true):fh X (.builtin "sorted") (fun xs H Q=>∃(p:Addr)(kvs:List (Key×V))(ns:List Int),xs=[.ref p]/\Rd H p (.dK kvs)/\(kvs.map fun q=>kV q.1)=ns.map V.int/\ns.length<1000/\ns.Pairwise (·<=·)/\∀(l:Addr)(ns':List Int),H l=none->ns'.Perm ns->ns'.Pairwise (·<=·)->Q (.ref l) (upd H l (.lst (ns'.map V.int)))):=by
 intro pins s σ H xs us Q I r h;obtain⟨p,kvs,ns,rfl,hx,hk,h64,up,q⟩:=h;obtain⟨u,rfl,ru⟩:=vals1 r;cases ru;have ho:bR X.prog X.w H s.heap p (.dK kvs):=by
  rcases hx with hx|⟨o,hx⟩
  ·exact I.hok p _ hx
  ·exact(I.hok p _ hx).2
 obtain⟨hz,hs,vs,rv,hD⟩:=ho;obtain⟨ep,hat⟩:=hD.dictAt;have hl:=rv.len;have hkl:=congrArg List.length hk;rw[Fm,Fm]at hkl;refine Calls.call_function_entry kind_sorted plain_sorted entry_sorted (args_sorted1 _) ?_;unfold Builtin.«sorted»;refine Fl (m:=checkCount "sorted" 1 1 _) (Fo ?_);refine Fl (PySem.W.kdu_collect (PySem.W.kdl_dict (knd:=bp X.prog X.w) (kvs:=vs) (ep:=ep) hs) (I.ok.hd hc) hat (by omega) fun h' tk acc hkeep hacc=>?_);have al:acc.toList.length=kvs.length:=by rw[G1,hacc.1,hl]
 have va:=uy rv al fun j v e=>hacc.2 j v (by rw[<-GW];exact e);rw[hk]at va;have I1:=I.kept (t':=tk) hkeep;refine Fl (wpAny_newList ?_ (by omega));have gD:(h'.push (seqObj "list" acc.toList.toArray 0)).get? h'.objs.size=some (seqObj "list" acc.toList.toArray 0):=FT _ rfl;have fr:H h'.objs.size=none:=I1.hok.fresh (Fv _);refine Fl (Gx (GG slot_list_sort ⟨_,gD,rfl⟩ entry_list_sort (uU gD (intsAre_of va) (by lia) up fun out ns' hi pm so=>⟨_,rfl,?_⟩) (args_list_sort _)));obtain⟨e,he⟩:=sortedHeap_at (out:=out) gD;have pl':=pm.length_eq;refine Fo ⟨_,rfl,.ref _,_,I1.track (t':=tk) (n:=e) (its:=out.toList) (I1.fpOk (Fv _) fr) (fun b o hb z=>?_) (og hi) (by rw[Fm,Gm];lia) he,rfl,q _ ns' fr pm so⟩;have lt:=FI z;rw[sortedHeap_old hb (by rw[size_push'];exact Nat.lt_succ_of_lt lt)];exact Fn _ z
end
section
variable{prog:Program}{w:World}{A:Around}{E:Value->Shared->Prop}{s:Shared}
theorem xp{a:Addr}{zs:AN}{n:Nat}{P:PySem.Fin->Shared->Prop}(ho:s.heap.get? a=some (seqObj "list" (vals zs).toArray n))(hz:∀z∈zs,vS s.heap z.1 z.2)(nd:(zs.map (·.2)).Nodup)(one:BR zs)(h64:zs.length<64)
  (h:∀ys:AN,ys.Perm zs->(ys.map (·.2)).Pairwise leS->P (.done (.ret .none)) {s with heap:=sortedHeap s.heap a (vals zs) (vals ys).toArray}):
  wpAny (model prog w) A (Builtin.«list.sort» ⟨[.ref a],[]⟩) P E s:=by
 rw[list_sort_plain];have ha:a<s.heap.objs.size:=FI ho;have lz:(vals zs).length=zs.length:=Fm ..;refine Fl (listItems_at ho rfl ?_);refine Fl (listUpdate_at ho rfl ?_ (by rw[Fu,lz,Gm];lia) (F1 _));obtain⟨e1,ho1⟩:∃e1,(s.heap.update a (Obj.mapSeq fun _=> #[])).get? a=some (seqObj "list" #[] e1):=⟨_,get?_update_seq ho (fun _=> #[])⟩;refine Fl (seqEpoch_at ho1 rfl ?_);refine Fl (wpAny_newTuple ?_ (by show(vals zs).length<=_;rw[lz,Gm];omega));refine Fl (wpAny_newList ?_ (F1 _));refine Gx ?_;have ho6:(((s.heap.update a (Obj.mapSeq fun _=> #[])).push (seqObj "tuple" (vals zs).toArray 0)).push (seqObj "list" #[] 0)).get? a=some (seqObj "list" #[] e1):=Fn _ (Fn _ ho1);have hz6:∀z∈zs,vS (((s.heap.update a (Obj.mapSeq fun _=> #[])).push (seqObj "tuple" (vals zs).toArray 0)).push (seqObj "list" #[] 0)) z.1 z.2:=fun z mz=>by
  obtain⟨o,its,n',t,f1,f2,f3,f4⟩:=hz z mz;have na:z.1≠a:=fun w=>by rw[w,ho]at f1;cases f1;have f2':Value.type "list"=Value.type "tuple":=f2;exact absurd f2' (by decide)
  exact⟨o,its,n',t,Fn _ (Fn _ (((Gu s.heap a _).2 z.1 na).trans f1)),f2,f3,f4⟩
 show wpAny (model prog w) A _ P E {s with heap:=((s.heap.update a (Obj.mapSeq fun _=> #[])).push (seqObj "tuple" (vals zs).toArray 0)).push (seqObj "list" #[] 0)};dsimp only;have pz:(pairsOf (vals zs)).toList=zs.map fun z=>((.ref z.1,.ref z.1):Keyed):=by rw[pairsOf_toList];unfold vals;rw[List.zip_map']
 have outL:∀{ar:Array Keyed}{ys:AN},ar.toList=ys.map (fun z=>((.ref z.1,.ref z.1):Keyed))->ar.map (·.2)=(vals ys).toArray:=fun {ar ys} e=>by apply Array.ext';rw[Array.toList_map,e,GB];rfl
 by_cases h2:(vals zs).toArray.size<2
 ·rw[FH h2,FH h2];refine Fl (Fo ?_);rw[StateT.run_pure];refine Fl (Fo ?_);dsimp only;refine Fl (seqEpoch_at ho6 rfl ?_);have eo:=outL (ar:=pairsOf (vals zs)) (ys:=zs) pz;refine Fl (listUpdate_at ho6 rfl ?_ (F1 _) (by show((pairsOf (vals zs)).map (·.2)).size<=_;rw[eo,Fu,lz,Gm];lia));simp only[bne_self_eq_false,Gk,if_false];refine Fo ?_;show P _ {s with heap:=(((s.heap.update a (Obj.mapSeq fun _=> #[])).push (seqObj "tuple" (vals zs).toArray 0)).push (seqObj "list" #[] 0)).update a (Obj.mapSeq fun _=>(pairsOf (vals zs)).map (·.2))};rw[eo];refine h zs (.refl _) ?_;rw[Fu,lz]at h2
  match zs,h2 with
  | [],_=>exact .nil
  | [z],_=>exact List.pairwise_singleton _ _
 ·rw[FA h2,FA h2];rw[Fu,lz]at h2;refine Fl (zv hz6 (fun w=>h2 (by rw[w];decide)) ?_);letI:=C0 zs;haveI:uL prog w A E {s with heap:=((s.heap.update a (Obj.mapSeq fun _=> #[])).push (seqObj "tuple" (vals zs).toArray 0)).push (seqObj "list" #[] 0)}:=zo hz6 nd one (fun v=>by simp);refine Fl (F8 (mZ (a₀:=pairsOf (vals zs)) (st:=SortSt.mk' (tuples' true) ((vals zs).toArray.zip (vals zs).toArray) #[] 7 none) (Q:=fun _ st'=>(arrOf st').Perm (pairsOf (vals zs))/\failedOf st'=none/\SortedTo (arrOf st') (pairsOf (vals zs)).size) (fun p hp=>?_) (Array.Perm.refl _) rfl rfl rfl (by rw[pairsOf_size,lz];lia) (.inl (by rw[pairsOf_size,lz];lia)) fun st' q1 q2 q3=>⟨q1,q2,q3⟩) ?_ fun _ _ e=>e)
  ·rw[pz]at hp;obtain⟨z,mz,rfl⟩:=Fp.mp hp;exact⟨z,mz,rfl⟩
  rintro⟨⟨⟩,st'⟩ s' ⟨rfl,hp,hf,hs⟩;dsimp only;obtain⟨ys,py,ey⟩:=tT (f:=fun z:Addr×Str=>((.ref z.1,.ref z.1):Keyed)) (zs:=zs) (l:=(arrOf st').toList) (by rw[<-pz];exact Array.perm_iff_toList_perm.mp hp);have eo:=outL ey;have ly:(vals ys).length=zs.length:=by rw[vals,Fm];exact py.length_eq
  refine Fl (seqEpoch_at ho6 rfl ?_);refine Fl (listUpdate_at ho6 rfl ?_ (F1 _) (by show((arrOf st').map (·.2)).size<=_;rw[eo,Fu,ly,Gm];omega));rw[hf];simp only[bne_self_eq_false,Gk,if_false];refine Fo ?_;rw[eo];refine h ys py ?_;rw[List.pairwise_iff_getElem];intro i j hi hj hij;rw[Fm]at hi hj;have sz:(pairsOf (vals zs)).size=ys.length:=by rw[pairsOf_size,lz];exact py.length_eq.symm
  have le:=hs i j (Nat.le_of_lt hij) (by rw[sz];exact hj);have at_:∀k(hk:k<ys.length),K (arrOf st') k=(rank zs (ys[k]'hk).2:Int):=fun k hk=>by unfold K;rw[<-GW,ey,FO,Fy hk];show((rank zs (nameAt zs (ys[k]'hk).1):Nat):Int)=_;rw[mJ one (py.mem_iff.mp (List.getElem_mem hk))]
  rw[at_ i hi,at_ j hj]at le;rw[List.getElem_map,List.getElem_map];unfold leS;rw[ltCps_eq];refine FY fun w=>?_;have:=rA (py.mem_iff.mp (List.getElem_mem hj)) (y:=(ys[i]'hi).2) (FQ w)
  lia
end
section
variable{X:Cx}
theorem vL:fh X (.builtin "sorted") (fun xs H Q=>∃(p:Addr)(zs:AN),xs=[.ref p]/\SqL X.K H p (zs.map fun z=>V.ref z.1)/\(∀z∈zs,∃r,SqT X.K H z.1 (.str z.2::r))/\(zs.map (·.2)).Nodup/\zs.length<64/\
  ∀(l:Addr)(ys:AN),H l=none->ys.Perm zs->(ys.map (·.2)).Pairwise leS->Q (.ref l) (upd H l (.lst (ys.map fun z=>V.ref z.1)))):=by
 intro pins s σ H xs us Q I r h;obtain⟨p,zs,rfl,hx,hz,nd,h64,q⟩:=h;obtain⟨u,rfl,ru⟩:=vals1 r;cases ru;obtain⟨vs,rv,pl,hzl⟩:=I.list hx;have refs:∀{ys:AN}{us:List Value},Vals (ys.map fun z=>V.ref z.1) us->us=vals ys:=by
  intro ys
  induction ys with
  |nil=>intro us r;cases r;rfl
  |cons z ys ih=>
   intro us r;rw[FG]at r;cases r with
   |cons a b=>cases a;rw[ih b];rfl
 have valsR:∀ys:AN,Vals (ys.map fun z=>V.ref z.1) (vals ys):=by
  intro ys
  induction ys with
  |nil=>exact .nil
  |cons z ys ih=>exact .cons rfl ih
 obtain rfl:=refs rv;have tn:∀z∈zs,vS s.heap z.1 z.2:=fun z mz=>by
  obtain⟨r,hr⟩:=hz z mz;obtain⟨its,rv',⟨o,e1,e2,n,e3⟩,_⟩:=I.tuple hr;cases rv' with
  |cons a b=>obtain⟨t,rfl⟩:=a;exact⟨o,_,n,t,e1,e2,e3,rfl⟩
 have one:BR zs:=fun z mz y my e=>by obtain⟨r1,h1⟩:=hz z mz;obtain⟨r2,h2⟩:=hz y my;rw[e]at h1;have:=I.tuple_inj h1 h2;exact V.str.inj (List.cons.inj this).1
 have lz:(vals zs).length=zs.length:=Fm ..;refine Calls.call_function_entry kind_sorted plain_sorted entry_sorted (args_sorted1 _) ?_;unfold Builtin.«sorted»;refine Fl (m:=checkCount "sorted" 1 1 _) (Fo ?_);refine Fl (collect_list pl.isList ?_ (by rw[lz,Gm];omega));refine Fl (wpAny_newList ?_ (by show(vals zs).length<=_;rw[lz,Gm];omega));have hsz:((s.heap.push (seqObj "list" #[] 0)).update s.heap.objs.size (Obj.mapSeq (·++(vals zs).toArray))).objs.size=s.heap.objs.size+1:=by rw[Heap.size_update,size_push']
 have hoL:(((s.heap.push (seqObj "list" #[] 0)).update s.heap.objs.size (Obj.mapSeq (·++(vals zs).toArray))).push (seqObj "list" (vals zs).toArray 0)).get? (s.heap.objs.size+1)=some (seqObj "list" (vals zs).toArray 0):=by rw[<-hsz];exact FT _ rfl
 have kp:∀b o,s.heap.get? b=some o->(((s.heap.push (seqObj "list" #[] 0)).update s.heap.objs.size (Obj.mapSeq (·++(vals zs).toArray))).push (seqObj "list" (vals zs).toArray 0)).get? b=some o:=fun b o e=>Fn _ (((Gu _ s.heap.objs.size _).2 b (F4 (FI e))).trans (Fn _ e))
 show wpAny _ _ _ _ _ {s with heap:=((s.heap.push (seqObj "list" #[] 0)).update s.heap.objs.size (Obj.mapSeq (·++(vals zs).toArray))).push (seqObj "list" (vals zs).toArray 0)};rw[hsz];refine Fl (Gx (GG slot_list_sort ⟨_,hoL,rfl⟩ entry_list_sort (xp hoL (fun z mz=>?_) nd one h64 fun ys py so=>⟨_,rfl,?_⟩) (args_list_sort _)))
 ·obtain⟨o,its,n,t,e1,e2,e3,e4⟩:=tn z mz;exact⟨o,its,n,t,kp _ _ e1,e2,e3,e4⟩
 refine Fo ⟨_,rfl,?_⟩;obtain⟨e,he⟩:=sortedAll_at s.heap (vals zs) (vals ys).toArray;have fr:H (s.heap.objs.size+1)=none:=I.hok.fresh (Nat.le_succ _);have ly:=py.length_eq;exact⟨.ref _,_,I.track (t':=s.toks) (n:=e) (its:=vals ys) (I.fpOk (Nat.le_succ _) fr) (fun b o _ z=>sortedAll_old z) (valsR ys) (by rw[Fm,Gm];lia) he,rfl,q _ ys fr py so⟩
end
end LT
namespace L2
open PySem PySem.W
theorem dB{g:(St->Hp->Prop)->Prop}{t:TS}{D:Ends}(k:let D':=D;g fun σ2 H2=>t D' σ2 H2):g (fun σ2 H2=>t D σ2 H2):=k
theorem fU{t:TS}{D:Ends}{σ:St}{H:Hp}(k:let D':=D;t D' σ H):t D σ H:=k
theorem dD{g:(St->Hp->Prop)->Prop}{tt:TT}{te:TE}{q:VK}{r:Hp->Prop}(k:let q':=q;let r':=r;g fun σ2 H4=>tt σ2 H4 fun b H5=>if b=true then te σ2 H5 q' else r' H5):g (fun σ2 H4=>tt σ2 H4 fun b H5=>if b=true then te σ2 H5 q else r H5):=k
noncomputable def DY:Stmt->List Stmt
 | .For _ _ b _ _=>b
 | .While _ b _ _=>b
 |_=>[]
theorem bQ{X:Cx}{body:List Stmt}{Z:TS->Prop}(k j:Nat){u:TS}(r:PSs X ((DY (body.getD k (.Pass ⟨0,0,0,0⟩))).drop j) u)(h:let R:=u;PSs X ((DY (body.getD k (.Pass ⟨0,0,0,0⟩))).drop j) R->∃t,PSs X body t/\Z t):∃t,PSs X body t/\Z t:=h r
end L2
namespace My
open PySem L2 LM PyProof.Rows
noncomputable abbrev Pg:Program:=PySem.Challenge.rw_landroll_k47_lifts_and_waives.prog
noncomputable def top(i:Nat):Stmt:=PySem.Challenge.pw_landroll_k47_lifts_and_waives.main.body.getD i (.Pass ⟨0,0,0,0⟩)
noncomputable abbrev dS:Stmt:=(iO (top 15)).getD 0 (.Pass ⟨0,0,0,0⟩)
noncomputable abbrev eu:Stmt:=(iO (top 15)).getD 2 (.Pass ⟨0,0,0,0⟩)
noncomputable abbrev eA:Stmt:=(iO (top 27)).getD 0 (.Pass ⟨0,0,0,0⟩)
noncomputable abbrev dR:Stmt:=(iO (top 28)).getD 0 (.Pass ⟨0,0,0,0⟩)
noncomputable abbrev gT:Stmt:=(iO (top 27)).getD 3 (.Pass ⟨0,0,0,0⟩)
noncomputable abbrev fY:Stmt:=(iO (top 28)).getD 3 (.Pass ⟨0,0,0,0⟩)
section
set_option maxHeartbeats 4000000
local macro_rules
 | `(tactic|trivial)=> `(tactic|first|exact Or.inl rfl|exact Or.inr rfl|decide+kernel|exact⟨rfl,rfl,rfl,by decide+kernel,rfl,by decide+kernel,by decide+kernel⟩)
variable{P:Program}{w:World}{K:Frag}{mg:Str->Option Value}{base:Heap}
noncomputable abbrev sM:Stmt:=(iO (top 3)).getD 0 (.Pass ⟨0,0,0,0⟩)
theorem xy:aB ["self","text","word","who"] ["self","text","word","who"] (ao sM):=by trivial
theorem xO{aT g9:Addr}(T:TxX K mg "Falls" aT sM ["self","text","word","who"] "Falls.__init__")(jq:BU K mg "LandError" g9)(iz:Aq K aT "word")(iU:Aq K aT "who"):DfX P w K mg base 1 "Falls" aT ["self","text","word","who"] (Ct aT "word" "who"):=by
 refine T.df xy (fun vs H Q E h=>?_) (fun f _ A _ s H vs Q E M hr h=>?_)
 ·obtain⟨x,tv,v0,v1,rfl,hx,q⟩:=h;rfl
 ·obtain⟨x,tv,v0,v1,rfl,hx,q⟩:=h;refine⟨_,(ai (dA (za jq (aa (pv 0) (aa (pv 1) ag)))) (ai (wg (pv 0) (pv 2)) (aj (wg (pv 0) (pv 3))))),?_⟩;refine⟨_,rfl,_,rfl,x,aT,f,[tv],rfl,aF rfl,hx,M.ok,_,rfl,_,rfl,x,aT,rfl,iz,.inl ⟨hx,fun dx hd ne=>⟨_,rfl,_,rfl,x,aT,rfl,iU,.inr ⟨dx,_,AA ne,ae,(by decide:(1:Nat)<=100),by rw[bc];exact q dx hd ne⟩⟩⟩⟩
variable{bE bb aQ aT:Addr}
variable(B:Bn mg)
variable(cy:fP mg "Paper" bE)
variable(fj:fP mg "Lift" bb)
variable(bM:BV K mg "Paper" bE "__init__")
variable(dP:fP mg "Waive" aQ)
variable(uI:mg "sum"=none)
variable(dH:DfX P w K mg base 1 "Falls" aT ["self","text","word","who"] (Ct aT "word" "who"))
variable(bX:fP mg "Falls" aT)
variable(cg:tE K aT)
variable(jr:Ap K mg "Falls" aT)
variable(eX:RdX K aT "word")
variable(fK:RdX K aT "who")
variable(iQ:mg "reversed"=none)
variable(sO:MkC K mg "Lift" bb)
variable(n6:MkC K mg "Waive" aQ)
variable(tm:Cls K bb)
variable(n9:Cls K aQ)
variable(cQ:ba K bb "number")
variable(dw:ba K bb "since")
variable(cP:ba K bb "signed")
variable(ft:ba K bb "at")
variable(cR:ba K bb "burden")
variable(cC:ba K aQ "number")
variable(cO:ba K aQ "since")
variable(cB:ba K aQ "signed")
variable(eW:ba K aQ "at")
variable(cD:ba K aQ "burden")
variable(cw:ba K aQ "ahead")
variable(eE:findIn K (.ref bb) "wanting"=findIn K (.ref bE) "wanting")
variable(dZ:findIn K (.ref aQ) "wanting"=findIn K (.ref bE) "wanting")
def yM(K:Frag):Sp:=fun vs H Q _=>∃(c:Nat)(k:Int),vs=[.int c,.int k]/\Q (.bl (decide (0<=k)&&c.testBit k.toNat)) H
variable(w8:Df P w K mg base 1 "has" ["cells","cell"] (yM K))
theorem Cw:aB ["cells","cell"] ["cells","cell"] (ao (top 5)):=by trivial
include B in
theorem CN(T:Tx K mg "has" (top 5) ["cells","cell"]):Df P w K mg base 1 "has" ["cells","cell"] (yM K):=by
 refine T.df Cw (by rintro _ _ _ _ ⟨c,k,rfl,q⟩;rfl) ?_;rintro f _ A _ s H _ Q E hr ⟨c,k,rfl,q⟩;refine⟨_,(aj (aE (rK (cY Ef (pv 1) af (aL _)) (mx (cY cN (aq vc (aq CJ (pv 0) (pv 1)) af) af (aL _)))))),?_⟩;refine⟨_,rfl,_,_,rfl,rfl,_,rfl,?_⟩;refine bw (fun h0=>?_) (fun h0=>?_)
 ·have h0':0<=k:=F7 h0;refine⟨_,rfl,_,rfl,_,_,rfl,rfl,h0',_,_,rfl,rfl,rfl,?_⟩;rw[Dh c k h0'];exact q
 ·have e:decide (0<=k)=false:=by simpa using h0
  rw[e]at q;exact q
def qu(K:Frag):Sp:=fun vs H Q _=>∃(c:Nat),vs=[.int c]/\c<2^64/\(c=0->Q .non H)/\(c≠0->Q (.int (bW c:Nat)) H)
variable(md:Df P w K mg base 1 "lowest" ["cells"] (qu K))
theorem xw:aB ["cells"] ["cells"] (ao (top 6)):=by trivial
include B in
theorem xK(T:Tx K mg "lowest" (top 6) ["cells"]):Df P w K mg base 1 "lowest" ["cells"] (qu K):=by
 refine T.df xw (by rintro _ _ _ _ ⟨c,rfl,hc,q0,q1⟩;rfl) ?_;rintro f _ A _ s H _ Q E hr ⟨c,rfl,hc,q0,q1⟩;refine aN ?_;intro kX;refine ah 1 (aj (aE (aq dM (u6 PySem.F.plainAttrs_int PySem.F.slot_int_bit_length PySem.F.type_int_bit_length Bj (aq vc (pv 0) (Ee Ci (pv 0)))) af))) ?_;intro kR1 pR1;refine⟨_,(ai (aV (aG cN (pv 0) af (aL _)) (aj (aE cH)) aI) pR1),?_⟩;refine⟨_,rfl,rfl,_,rfl,?_⟩;refine bw (fun h0=>?_) (fun h0=>?_)
 ·exact q0 (by have:=V.int.inj (F7 h0);lia)
 ·have hne:c≠0:=fun z=>h0 (by rw[z];rfl);have q2:=q1 hne;rw[<-zq hc hne]at q2;exact⟨_,rfl,_,rfl,_,rfl,_,_,rfl,rfl,rfl,_,rfl,rfl,_,_,rfl,rfl,q2⟩
def jR(K:Frag):Sp:=fun vs H Q _=>∃(l:Addr)(xs:List V)(C:List Col)(rs:List (List Key)),vs=[.ref l]/\SqL K H l xs/\Paired (qm K H) xs C/\(∀c∈C,∀r∈c,r∈rs)/\rs.length<=59/\(∀r∈rs,du r)/\(rs.map av).Nodup/\∀(a:Addr)(T:Col)(H':Hp),ak H H'->ml C T->bJ K H' a T->Q (.ref a) H'
variable(dh:Df P w K mg base 1 "burdens_in" ["columns"] (jR K))
theorem fw:aB ["columns","found","column","burden"] ["columns"] (ao (top 10)):=by trivial
include B in
theorem qf(T:Tx K mg "burdens_in" (top 10) ["columns"]):Df P w K mg base 1 "burdens_in" ["columns"] (jR K):=by
 refine T.df fw (by rintro _ _ _ _ ⟨l,xs,C,rs,rfl,hl,pr,hsub,hrs,hib,nd,q⟩;rfl) ?_;rintro f _ A _ s H _ Q E hr ⟨l,xs,C,rs,rfl,hl,pr,hsub,hrs,hib,nd,q⟩;have hu:=hr.units;refine aN ?_;intro kX;refine ah 2 (aj (aE (bU b9 (by rfl) B.tuple boot_tuple (aa (bI ["number"] [("found",1)] (fb _ ["found"]) rfl (by rfl) rfl (by trivial) (by trivial) (aP (by rfl)) (b8 (by rfl)) (mC ⟨rfl,rfl⟩ mN) (mC rfl mN) (bu (by decide)) (cX (aY (kB rfl) (by rfl) B.sorted (by trivial) (aa (pv 1) ag))) (fun _ _ _ _=>aK (i:=0) (show(["number","found"]:List Str).Nodup by trivial) rfl (Or.inl rfl) (Or.inr rfl)) (fun _ _ _ _=>bz) (fun _ _ _ _=>(jz (iq hr) (pv 1) (pv 0) (fun _ _=>rfl)))) ag)))) ?_;intro kR2 pR2;refine ah 1 (ai (cu FZ rfl (cX (pv 0)) (aK (i:=2) fw.nd rfl (by trivial)) (aj (cu FZ rfl (eO (pv 2)) (aK (i:=3) fw.nd rfl (by trivial)) (aj (iE (iq hr) (pv 1) (aJ aO (pv 3) af (fun _ _=>rfl)) (pv 3) rfl))))) pR2) ?_;intro kR1 pR1;refine⟨_,(ai (aw (i:=1) fw.nd rfl (by trivial) jj) pR1),?_⟩;have inj:=mI nd;have lx:xs.length=C.length:=Fx pr;have len:∀(D:List (List Key)),(D.map av).Nodup->(∀r∈D,r∈rs)->D.length<=59:=fun D n1 h1=>by
  have:=Gb n1 (l₂:=rs.map av) fun x hx=>by obtain⟨r,hr,e⟩:=Fp.mp hx;exact Fp.mpr ⟨r,h1 r hr,e⟩
  rw[Fm,Fm]at this
  lia
 intro d hd;refine⟨_,rfl,l,rfl,⟨_,(ak.upd hd).seq hl⟩,d9 (K:=K) (a:=l) (xs:=xs) (fun i σ H2=>∃(o2 o3:Option V)(kvs:List (Key×V))(D:List (List Key)),σ=[some (.ref l),some (.ref d),o2,o3]/\H2=upd H d (.dK kvs)/\Paired (KB K H) kvs D/\(D.map av).Nodup/\∀r,r∈D<->∃c∈C.take i,r∈c) ⟨none,none,[],[],rfl,rfl,.nil,List.nodup_nil,fun r=>by simp⟩ (fun i σ H2 _ hPz=>hPz.elim fun _ hPz=>hPz.elim fun _ hPz=>hPz.elim fun _ hPz=>hPz.elim fun _ hPz=>(fun e=>by rw[e];exact(ak.upd hd).seq hl) (hPz.2.1)) ?_ ?_⟩
 ·rintro i y σ H2 hi ⟨o2,o3,kvs,D,rfl,rfl,kb,nd2,hD⟩;refine dB ?_;intro kD1;obtain⟨c,hc,b,rfl,hb⟩:=aM pr hi;have cin:=Fs hc;obtain⟨lay,ys,hy,py⟩:=id hb;have ly:ys.length=c.length:=Fx py;refine⟨_,rfl,b,rfl,⟨_,(ak.upd hd).tup hy⟩,gW (K:=K) (a:=b) (xs:=ys) (fun j σ H2=>∃(o3:Option V)(kvs:List (Key×V))(D:List (List Key)),σ=[some (.ref l),some (.ref d),some (.ref b),o3]/\H2=upd H d (.dK kvs)/\Paired (KB K H) kvs D/\(D.map av).Nodup/\∀r,r∈D<->(∃c'∈C.take i,r∈c')\/r∈c.take j) ⟨o3,kvs,D,rfl,rfl,kb,nd2,fun r=>by rw[hD];simp⟩ (fun j σ H2 _ hPz=>hPz.elim fun _ hPz=>hPz.elim fun _ hPz=>hPz.elim fun _ hPz=>(fun e=>by rw[e];exact(ak.upd hd).tup hy) (hPz.2.1)) ?_ ?_⟩
  ·rintro j y σ H2 hj ⟨o3',kvs',D',rfl,rfl,kb',nd',hD'⟩;refine dB ?_;intro kD2;obtain⟨r,hr,a,rfl,ha⟩:=aM py hj;have rin:r∈c:=Fs hr;have rrs:=hsub c cin r rin;have bur:bS K H (.ref a) r:=⟨lay r rin,a,rfl,ha⟩;have Dsub:∀x∈D',x∈rs:=fun x hx=>by
    rcases (hD' x).mp hx with⟨c',hc',z⟩|z
    ·exact hsub c' (Gw hc') x z
    ·exact hsub c cin x (Gw z)
   have ub:∀x∈D',av x=av r->x=r:=fun x hx e=>inj x (Dsub x hx) r rrs e;have lk:kvs'.length<=59:=(by rw[Fx kb'];exact len D' nd' Dsub);have put:=zy bur kb' ub;have fin:∀x,x∈mY D' r<->(∃c'∈C.take i,x∈c')\/x∈c.take (j+1):=fun x=>by rw[pJ ub,hD',FJ,hr,F2,FC,Fq,or_assoc]
   have nda:=tD (r:=r) nd';obtain⟨n,k,x,m,u,er⟩:=hib r rrs;have en:av r=n:=(by rw[er];rfl);rw[en]at put;rw[er]at ha;refine⟨_,rfl,_,rfl,_,rfl,a,_,_,_,rfl,rfl,(ak.upd hd).tup ha,(az (j:=0) rfl),d,_,rfl,pN.k (k:=.inl n) ae (aD (by lia)),?_⟩;exact⟨_,_,mY D' r,rfl,by rw[bc],put,nda,fin⟩
  ·rintro σ H2 ⟨o3',kvs',D',rfl,rfl,kb',nd',hD'⟩;refine⟨_,_,kvs',D',rfl,rfl,kb',nd',fun r=>?_⟩;rw[hD',ly,FU,FJ,hc,F2];constructor
   ·rintro(⟨c',h1,h2⟩|h)
    ·exact⟨c',FR _ h1,h2⟩
    ·exact⟨c,FX _ (Fq.mpr rfl),h⟩
   ·rintro⟨c',h1,h2⟩;rcases FC.mp h1 with z|z
    ·exact .inl ⟨c',z,h2⟩
    ·rw[Fq.mp z]at h2;exact .inr h2
 ·rintro σ H2 ⟨o2,o3,kvs,D,rfl,rfl,kb,nd2,hD⟩;rw[lx,FU]at hD;have Dsub:∀x∈D,x∈rs:=fun x hx=>by
   obtain⟨c',hc',z⟩:=(hD x).mp hx;exact hsub c' hc' x z
  have lD:=len D nd2 Dsub;have s1:=ak.upd (o:=.dK kvs) hd;have hd1:(upd H d (.dK kvs)) d=some (.dK kvs):=ae;generalize (upd H d (.dK kvs))=H1 at s1 hd1 ⊢;refine⟨_,rfl,d,kvs,D.map av,rfl,.inl hd1,wH kb,by rw[Fm];lia,fun l4 ns' hl4 pm so=>?_⟩;have s4:=ak.upd (o:=.lst (ns'.map V.int)) hl4;have h4:(upd H1 l4 (.lst (ns'.map V.int))) l4=some (.lst (ns'.map V.int)):=ae;have ln:ns'.length<=59:=by rw[pm.length_eq,Fm];exact lD
  have hd4:=s4 _ _ hd1;have s14:=s1.trans s4;generalize (upd H1 l4 (.lst (ns'.map V.int)))=H4 at s4 h4 hd4 s14 ⊢;refine⟨l4,rfl,⟨_,SqL.of h4⟩,fun A1 hA1=>?_⟩;refine qN (K:=K) (a:=l4) (xs:=ns'.map V.int) (fun i acc H5=>H5=upd H4 A1 (.lst acc)/\∃T:List (List Key),Paired (bS K H) acc T/\T.map av=ns'.take i/\∀r∈T,r∈D) ⟨rfl,[],.nil,rfl,fun _ z=>nomatch z⟩ (fun i acc H5 _ ⟨e,_⟩=>by rw[e];exact(ak.upd hA1).seq (SqL.of h4)) ?_ ?_
  ·rintro i y acc H5 hi ⟨rfl,T,pT,mT,sT⟩;refine dD ?_;intro kq3 kr3;obtain⟨n,hn,rfl⟩:∃n,ns'[i]?=some n/\y=.int n:=by
    rw[FO]at hi;cases e:ns'[i]? with
    |none=>rw[e]at hi;cases hi
    |some n=>rw[e]at hi;cases hi;exact⟨n,rfl,rfl⟩
   obtain⟨v,r,ev,hr,er,hv⟩:=zx kb (pm.mem_iff.mp (Fs hn));have dg:=pP.k (k:=.inl n) ((ak.upd (o:=.lst acc) hA1) _ _ hd4);rw[ev]at dg;refine⟨_,rfl,_,rfl,d,_,rfl,dg,ae,aD ?_,by rw[bc],T++[r],Paired.app pT (.cons hv .nil),?_,fun x hx=>?_⟩
   ·have l1:acc.length=T.length:=Fx pT;have l2:=congrArg List.length mT;rw[Fm,FK]at l2
    lia
   ·rw[FN,mT,FJ,hn,F2,FG,List.map_nil,er]
   ·rcases FC.mp hx with z|z
    ·exact sT x z
    ·rw[Fq.mp z];exact hr
  ·rintro acc H5 ⟨rfl,T,pT,mT,sT⟩;rw[Fm,FU]at mT;have s5:=ak.upd (o:=.lst acc) hA1;refine⟨A1,_,rfl,.inl ⟨SqL.of ae,fun a ha=>?_⟩⟩;have s6:=ak.upd (o:=.tup acc) ha;have sZ:=s14.trans (s5.trans s6);exact q a T _ sZ (Ah nd2 hD pm so mT sT) (bJ.of (SqT.of ae) (Paired.imp (fun _ _ z=>bS.tk sZ.tk z) pT))
def gR(K:Frag)(mg:Str->Option Value):Sp:=fun vs H Q _=>∃(a C dx sg:Addr)(num since:Int),vs=[.ref a,.int num,.int since,.ref sg]/\H a=some (.ins C dx [])/\xf K mg C/\Q .non (upd H a (.ins C dx (E7 num since sg)))
variable(bN:DfT P w K mg base CX0 1 bE "__init__" ["self","number","since","signed"] (gR K mg) [])
theorem kZ:aB ["self","number","since","signed"] ["self","number","since","signed"] (ao dS):=by trivial
include B cy in
theorem lE(T:TxM K bE "__init__" "Paper.__init__" dS ["self","number","since","signed"] []):DfT P w K mg base CX0 1 bE "__init__" ["self","number","since","signed"] (gR K mg) []:=by refine T.df kZ (by rintro _ _ _ _ ⟨a,C,dx,sg,num,since,rfl,ha,PC,q⟩;rfl) ?_;rintro f _ A _ s H _ Q E hr ⟨a,C,dx,sg,num,since,rfl,ha,PC,q⟩;refine aN ?_;intro kX;refine ah 2 (aj (je (pv 0) (pv 3) rfl)) ?_;intro kR2 pR2;refine ah 1 (ai (je (pv 0) (pv 2) rfl) pR2) ?_;intro kR1 pR1;refine⟨_,(ai (je (pv 0) (pv 1) rfl) pR1),?_⟩;refine⟨_,rfl,_,rfl,a,C,dx,_,rfl,ha,PC.cls,PC.num,by decide,?_⟩;refine⟨_,rfl,_,rfl,a,C,dx,_,rfl,ae,PC.cls,PC.sin,(by show 1<1000;decide),?_⟩;refine⟨_,rfl,_,rfl,a,C,dx,_,rfl,ae,PC.cls,PC.sig,(by show 2<1000;decide),?_⟩;rw[bc,bc];exact q
def ib(K:Frag)(mg:Str->Option Value):Sp:=fun vs H Q _=>∃(a C dx sg l:Addr)(fs:List (Str×V))(ss xs:List Str),vs=[.ref a,.ref l]/\H a=some (.ins C dx fs)/\xf K mg C/\fs.lookup ("signed":Str)=some (.ref sg)/\SqT K H sg (SV ss)/\SqL K H l (SV xs)/\(∀x∈ss,PyData.canLay0 (.str x)=true)/\(∀x∈xs,PyData.canLay0 (.str x)=true)/\Q (BX (fH ss xs)) H
variable(eI:DfT P w K mg base CX0 1 bE "wanting" ["self","names"] (ib K mg) [])
theorem ig:aB ["self","names","name"] ["self","names"] (ao eu):=by trivial
include B cy in
theorem mG(T:TxM K bE "wanting" "Paper.wanting" eu ["self","names"] []):DfT P w K mg base CX0 1 bE "wanting" ["self","names"] (ib K mg) []:=by
 refine T.df ig (by rintro _ _ _ _ ⟨a,C,dx,sg,l,fs,ss,xs,rfl,ha,PC,hf,hs,hl,lss,lxs,q⟩;rfl) ?_;rintro f _ A _ s H _ Q E hr ⟨a,C,dx,sg,l,fs,ss,xs,rfl,ha,PC,hf,hs,hl,lss,lxs,q⟩;have hu:=hr.units;refine aN ?_;intro kX;refine ah 1 (aj (aE cH)) ?_;intro kR1 pR1;refine⟨_,(ai (cu FZ rfl (cX (pv 1)) (aK (i:=2) ig.nd rfl (by trivial)) (aj (aV (aG (eV hu) (pv 2) (fq (pv 0) rfl) (by with_unfolding_all rfl)) (aj (aE (pv 2))) aI))) pR1),?_⟩;refine⟨_,rfl,l,rfl,⟨_,hl⟩,d9 (K:=K) (a:=l) (xs:=SV xs) (fun i σ H2=>∃o2:Option V,σ=[some (.ref a),some (.ref l),o2]/\H2=H/\fH ss xs=fH ss (xs.drop i)) ⟨none,rfl,rfl,rfl⟩ (fun i σ H2 _ hPz=>hPz.elim fun _ hPz=>(fun e=>by rw[e];exact hl) (hPz.2.1)) ?_ ?_⟩
 ·rintro i y σ H2 hi ⟨o2,rfl,rfl,e⟩;refine dB ?_;intro kD1;obtain⟨x,hx,rfl⟩:∃x,xs[i]?=some x/\y=.str x:=by
   rw[show SV xs=xs.map V.str from rfl,FO]at hi;cases e:xs[i]? with
   |none=>rw[e]at hi;cases hi
   |some x=>rw[e]at hi;cases hi;exact⟨x,rfl,rfl⟩
  rw[iK hx,hW]at e;refine⟨_,rfl,_,rfl,a,C,dx,fs,_,rfl,ha,PC.cls,PC.sig,hf,.str x,ss.map PyData.str,.str _,.inr (.tup hs (jD ss)),lxs x (Fs hx),oZ lss,FF rfl,_,rfl,?_⟩;rw[pI];refine bw (fun h2=>?_) (fun h2=>?_)
  ·have h2':x∉ss:=(by simpa using h2);rw[FA h2']at e;rw[e]at q;exact⟨_,rfl,q⟩
  ·have h2':x∈ss:=(by simpa using h2);rw[FH h2']at e;exact⟨_,rfl,rfl,e⟩
 ·rintro σ H2 ⟨o2,rfl,rfl,e⟩;rw[show(SV xs).length=xs.length from Fm _,List.drop_length]at e;rw[e]at q;exact q
def m5(K:Frag):Sp:=fun vs H Q _=>∃(a:Addr)(n:Int)(c:Col),vs=[.ref a,.int n]/\bJ K H a c/\(∀r∈c,du r)/\∀H',ak H H'->(∀i,ff n c i->Q (.int (i:Nat)) H')/\((∀r∈c,av r≠n)->Q .non H')
variable(c8:Df P w K mg base 1 "place_of" ["column","number"] (m5 K))
theorem i8:aB ["column","number","place","burden"] ["column","number"] (ao (top 19)):=by trivial
include B in
theorem t6(T:Tx K mg "place_of" (top 19) ["column","number"]):Df P w K mg base 1 "place_of" ["column","number"] (m5 K):=by
 refine T.df i8 (by rintro _ _ _ _ ⟨a,n,c,rfl,hc,hb,q⟩;rfl) ?_;rintro f _ A _ s H _ Q E hr ⟨a,n,c,rfl,hc,hb,q⟩;refine aN ?_;intro kX;refine ah 1 (aj (aE cH)) ?_;intro kR1 pR1;refine⟨_,(ai (cu FZ rfl (A4 (by rfl) B.enumerate (aa (pv 0) ag)) (rG rfl (fL (aK (i:=2) i8.nd rfl (by trivial)) (fL (aK (i:=3) i8.nd rfl (by trivial)) nW))) (aj (aV (aG cN (aJ aO (pv 3) af (fun _ _=>rfl)) (pv 1) (aL _)) (aj (aE (pv 2))) aI))) pR1),?_⟩;obtain⟨xs,hx,pr⟩:=hc.bur;have lx:xs.length=c.length:=Fx pr;refine⟨_,rfl,a,rfl,⟨_,hx⟩,zM (K:=K) (a:=a) (xs:=xs) (fun i σ H2=>∃o2 o3:Option V,σ=[some (.ref a),some (.int n),o2,o3]/\ak H H2/\∀j r,j<i->c[j]?=some r->av r≠n) ⟨none,none,rfl,ak.refl H,fun _ _ z=>absurd z (Nat.not_lt_zero _)⟩ (fun i σ H2 _ hPz=>hPz.elim fun _ hPz=>hPz.elim fun _ hPz=>(fun e=>e.tup hx) (hPz.2.1)) ?_ ?_⟩
 ·rintro i y σ H2 T hi ⟨o2,o3,rfl,s2,hn⟩ hT;obtain⟨r,hr,bur⟩:=aM pr hi;obtain⟨lay,ab,rfl,ha⟩:=id bur;obtain⟨nn,k,x,m,u,er⟩:=hb r (Fs hr);have en:av r=nn:=by rw[er];rfl
  rw[er]at ha;have tk:c.take (i+1)=c.take i++[r]:=by rw[FJ,hr];rfl
  have i100:i<xs.length:=(FD.mp hi).1;have sT:=ak.upd (o:=.tup [.int (i:Nat),.ref ab]) hT;refine⟨T,_,rfl,SqT.of ae,rfl,_,_,rfl,_,_,rfl,rfl,?_⟩;refine⟨_,rfl,ab,_,_,_,rfl,rfl,(s2.trans sT).tup ha,(az (j:=0) rfl),_,rfl,rfl,_,rfl,?_⟩;refine bw (fun h1=>?_) (fun h1=>?_)
  ·exact⟨_,rfl,(q _ (s2.trans sT)).1 i ⟨r,hr,by rw[en];exact veq.mp h1,hn⟩⟩
  ·refine⟨_,_,rfl,s2.trans sT,fun j r' hj hr'=>?_⟩;rcases Nat.lt_or_ge j i with z|z
   ·exact hn j r' z hr'
   ·have e:j=i:=(by lia);subst e;rw[hr]at hr';cases hr';rw[en];exact fun w=>h1 (veq.mpr w)
 ·rintro σ H2 ⟨o2,o3,rfl,s2,hn⟩;refine(q _ s2).2 fun r hr=>?_;obtain⟨j,hj,rfl⟩:=G0 hr;exact hn j _ (by lia) (Fy hj)
def iW(K:Frag):Sp:=fun vs H Q _=>∃(a:Addr)(n:Int)(c:Col),vs=[.ref a,.int n]/\bJ K H a c/\(∀r∈c,du r)/\c.length<=100/\∀b H',ak H H'->bJ K H' b (wo n c)->Q (.ref b) H'
variable(fC:Df P w K mg base 1 "lifted_from" ["column","number"] (iW K))
theorem oz:aB ["column","number"] ["column","number"] (ao (top 20)):=by trivial
include B in
theorem oN(T:Tx K mg "lifted_from" (top 20) ["column","number"]):Df P w K mg base 1 "lifted_from" ["column","number"] (iW K):=by
 refine T.df oz (by rintro _ _ _ _ ⟨a,n,c,rfl,hc,hb,hl,q⟩;rfl) ?_;rintro f _ A _ s H _ Q E hr ⟨a,n,c,rfl,hc,hb,hl,q⟩;refine⟨_,(aj (aE (bU b9 (by rfl) B.tuple boot_tuple (aa (bI ["burden"] [("number",1)] (fb _ ["number"]) rfl (by rfl) rfl (by trivial) (by trivial) (aP (by rfl)) (b8 (by rfl)) (mC ⟨rfl,rfl⟩ mN) (mC rfl mN) (bu (by decide)) (eO (pv 0)) (fun _ _ _ _=>aK (i:=0) (show(["burden","number"]:List Str).Nodup by trivial) rfl (Or.inl rfl) (Or.inr rfl)) (fun _ _ _ _=>ji (aG qE (aJ (c7 (K:=K) rfl) (pv 0) af (fun _ _=>rfl)) (pv 1) (aL _))) (fun _ _ _ _=>(pv 0))) ag)))),?_⟩;obtain⟨xs,hx,pr⟩:=hc.bur;have lx:xs.length=c.length:=Fx pr;refine⟨_,rfl,a,rfl,⟨_,hx⟩,fun A1 hA1=>?_⟩;refine nM (K:=K) (a:=a) (xs:=xs) (fun i acc H2=>H2=upd H A1 (.lst acc)/\Paired (bS K H) acc (wo n (c.take i))) ⟨rfl,.nil⟩ (fun i acc H2 _ ⟨e,_⟩=>by rw[e];exact(ak.upd hA1).tup hx) ?_ ?_
 ·rintro i y acc H2 hi ⟨rfl,py⟩;refine dD ?_;intro kq1 kr1;obtain⟨r,hr,bur⟩:=aM pr hi;obtain⟨lay,ab,rfl,ha⟩:=id bur;obtain⟨nn,k,x,m,u,er⟩:=hb r (Fs hr);have en:av r=nn:=by rw[er];rfl
  rw[er]at ha;have tk:c.take (i+1)=c.take i++[r]:=by rw[FJ,hr];rfl
  have i100:i<xs.length:=(FD.mp hi).1;have s1:=ak.upd (o:=.lst acc) hA1;refine⟨_,rfl,ab,_,_,_,rfl,rfl,s1.tup ha,(az (j:=0) rfl),_,rfl,rfl,_,rfl,?_⟩;refine bw (fun h1=>?_) (fun h1=>?_)
  ·have ne:¬av r=n:=(by rw[en];exact vne.mp h1);refine⟨_,rfl,ae,aD ?_,by rw[bc],?_⟩
   ·rw[Fx py];have:=Cf n (c.take i);rw[FK]at this
    lia
   ·rw[tk,vY,FA ne];exact Paired.app py (.cons bur .nil)
  ·have e:av r=n:=(by rw[en];exact Gn fun z=>h1 (vne.mpr z));refine⟨rfl,?_⟩;rw[tk,vY,FH e,F3];exact py
 ·rintro acc H2 ⟨rfl,py⟩;rw[lx,FU]at py;refine⟨A1,_,rfl,.inl ⟨SqL.of ae,fun p hp=>?_⟩⟩;have ss:=(ak.upd (o:=.lst acc) hA1).trans (ak.upd (o:=.tup acc) hp);exact q p _ ss (bJ.of (SqT.of ae) (Paired.imp (fun _ _ z=>bS.tk ss.tk z) py))
def i6(K:Frag):Sp:=fun vs H Q _=>∃(a:Addr)(ns:List Int)(k:Nat),vs=[.ref a,.int k]/\SqL K H a (ns.map V.int)/\Q (.int (ns.getD k 0)) H
variable(aH:Df P w K mg base 1 "_law_cell_at" ["_law_script","_law_k"] (i6 K))
theorem oB:aB ["_law_script","_law_k"] ["_law_script","_law_k"] (ao (top 30)):=by trivial
include B in
theorem oR(T:Tx K mg "_law_cell_at" (top 30) ["_law_script","_law_k"]):Df P w K mg base 1 "_law_cell_at" ["_law_script","_law_k"] (i6 K):=by
 refine T.df oB (by rintro _ _ _ _ ⟨a,ns,k,rfl,hS,q⟩;rfl) ?_;rintro f _ A _ s H _ Q E hr ⟨a,ns,k,rfl,hS,q⟩;refine aN ?_;intro kX;refine ah 1 (aj (aE af)) ?_;intro kR1 pR1;refine⟨_,(ai (aV (aG wB (pv 1) (aY bO (by rfl) B.len G2 (aa (pv 0) ag)) (aL _)) (aj (aE (aJ bV (pv 0) (pv 1) (fun _ _=>rfl)))) aI) pR1),?_⟩;refine⟨_,rfl,_,rfl,a,_,rfl,.inl hS,_,_,rfl,rfl,_,rfl,?_⟩;refine bw (fun h1=>?_) (fun h1=>?_)
 ·have h1':k<ns.length:=by
   have:=F7 h1;rw[Fm]at this
   lia
  refine⟨_,rfl,_,rfl,a,_,_,_,rfl,rfl,hS,az (show(ns.map V.int)[k]?=some (.int (ns.getD k 0)) by simp[h1',List.getD]),q⟩
 ·have h1':¬k<ns.length:=fun z=>h1 (by
   rw[Gj,Fm]
   lia)
  have e:ns.getD k 0=0:=by simp[List.getD,Nat.le_of_not_lt h1']
  rw[e]at q;exact q
def kN(K:Frag):Sp:=fun vs H Q _=>∃(x:V)(n:String),vs=[x]/\gI K H x (.type n)/\Q (.bl (isI x)) H
variable(cU:Df P w K mg base 1 "_law_whole" ["_law_found"] (kN K))
theorem rp:aB ["_law_found"] ["_law_found"] (ao (top 31)):=by trivial
include B in
theorem rS(T:Tx K mg "_law_whole" (top 31) ["_law_found"]):Df P w K mg base 1 "_law_whole" ["_law_found"] (kN K):=by
 refine T.df rp (by rintro _ _ _ _ ⟨x,n,rfl,ty,q⟩;rfl) ?_;rintro f _ A _ s H _ Q E hr ⟨x,n,rfl,ty,q⟩;refine⟨_,(aj (aE (rK (aY pH (by rfl) B.isinstance boot_isinstance (aa (pv 0) (aa (jA (x:="int") (v:=.ty "int") (by rfl) B.int boot_int rfl) ag))) (mx (CG (aY pH (by rfl) B.isinstance boot_isinstance (aa (pv 0) (aa (jA (x:="bool") (v:=.ty "bool") (by rfl) B.bool boot_bool rfl) ag)))))))),?_⟩;have k1:=Br K ty;have k2:=zu K ty;refine⟨_,rfl,_,_,_,_,rfl,ty,k1,_,rfl,?_⟩;refine bw (fun h1=>?_) (fun h1=>?_)
 ·refine⟨_,rfl,_,_,_,_,rfl,ty,k2,_,rfl,?_⟩;cases x<;>simp_all [isI,isB]
 ·cases x<;>simp_all [isI,isB]
def nu(K:Frag):Sp:=fun vs H Q _=>∃(c:Int),vs=[.int c]/\∀r:Nat,Q (.int r) H
variable(c9:Df P w K mg base 1 "_law_bits" ["_law_cell"] (nu K))
theorem nC:aB ["_law_cell","_law_one"] ["_law_cell"] (ao (top 32)):=by trivial
include B in
theorem uh(T:Tx K mg "_law_bits" (top 32) ["_law_cell"]):Df P w K mg base 1 "_law_bits" ["_law_cell"] (nu K):=by
 refine T.df nC (by rintro _ _ _ _ ⟨c,rfl,q⟩;rfl) ?_;rintro f _ A _ s H _ Q E hr ⟨c,rfl,q⟩;refine aN ?_;intro kX;refine ah 1 (aj (aE (aq CI (pv 1) (aq b6 (pv 1) af)))) ?_;intro kR1 pR1;refine⟨_,(ai (aw (i:=1) nC.nd rfl (by trivial) (aq bh (aq bZ (aq bh (pv 0) (aq j7 af af)) af) (aq j7 af af))) pR1),?_⟩;refine⟨_,rfl,_,_,rfl,rfl,⟨by decide,by decide,by decide⟩,_,_,rfl,rfl,(by show(0:Int)<_;decide),_,_,rfl,rfl,.inl (Eh c),_,_,rfl,rfl,⟨by decide,by decide,by decide⟩,_,_,rfl,rfl,(by show(0:Int)<_;decide),?_⟩;have a0:=Gq (c % (2:Int)^(64:Int).toNat*5678901234567890123) (show(2:Int)^(64:Int).toNat≠0 by decide);obtain⟨a,ea⟩:∃a:Nat,c % (2:Int)^(64:Int).toNat*5678901234567890123 % (2:Int)^(64:Int).toNat=(a:Nat):=⟨_,(Int.toNat_of_nonneg a0).symm⟩;obtain⟨r,er⟩:=Cd a (a / 536870912);refine⟨_,rfl,_,rfl,_,_,rfl,rfl,⟨by decide,by decide⟩,_,_,rfl,rfl,?_⟩;have e:Builtin.bitXor (c % (2:Int)^(64:Int).toNat*5678901234567890123 % (2:Int)^(64:Int).toNat) (c % (2:Int)^(64:Int).toNat*5678901234567890123 % (2:Int)^(64:Int).toNat / 536870912)=(r:Nat):=by rw[ea];exact er
 show Q (.int (Builtin.bitXor (c % (2:Int)^(64:Int).toNat*5678901234567890123 % (2:Int)^(64:Int).toNat) (c % (2:Int)^(64:Int).toNat*5678901234567890123 % (2:Int)^(64:Int).toNat / 536870912))) H;rw[e];exact q r
def kO(K:Frag):Sp:=fun vs H Q _=>∃(r:Int)(w h:Nat),vs=[.int r,.int w,.int h]/\(0<w/\w<=8/\0<h/\h<=8)/\∀(v:Int) H',ak H H'->Q (.int v) H'
variable(g5:Df P w K mg base 1 "_law_shape" ["_law_rest","_law_wide","_law_high"] (kO K))
theorem bY:aB ["_law_rest","_law_wide","_law_high","_law_found","_law_k","_law_x","_law_y","_law_held"] ["_law_rest","_law_wide","_law_high"] (ao (top 33)):=by trivial
include B in
theorem rV(T:Tx K mg "_law_shape" (top 33) ["_law_rest","_law_wide","_law_high"]):Df P w K mg base 1 "_law_shape" ["_law_rest","_law_wide","_law_high"] (kO K):=by
 refine T.df bY (by rintro _ _ _ _ ⟨r,w,h,rfl,⟨hw,hw8,hh,hh8⟩,q⟩;rfl) ?_;rintro f _ A _ s H _ Q E hr ⟨r,w,h,rfl,⟨hw,hw8,hh,hh8⟩,q⟩;refine aN ?_;intro kX;refine ah 2 (aj (aE (pv 3))) ?_;intro kR2 pR2;refine bQ 1 3 (aj (aV (aG qE (pv 7) (cY cN (pv 4) (aq bh (aq b6 (pv 0) af) (aq bZ (pv 1) (pv 2))) (aL _)) (aL _)) (aj (aw (i:=3) bY.nd rfl (by trivial) (aq bg (pv 3) (aq gy af (pv 4))))) aI)) ?_;intro kS1x3 pS1x3;refine bQ 1 2 (bF (aV (aG cN (aq bh (pv 0) af) af (aL _)) (aj (aw (i:=7) bY.nd rfl (by trivial) (B5 (cY cN (aq bh (pv 6) af) af (aL _)) (mx (cY cN (pv 5) (aJ bV (dy (aa (aq dM (pv 1) af) (aa af ag))) (aq bh (aq b6 (pv 6) af) af) (fun _ _=>rfl)) (aL _)))))) (aj (aV (aG cN (aq bh (pv 0) af) af (aL _)) (aj (aw (i:=7) bY.nd rfl (by trivial) (B5 (cY qG (pv 5) (aR (aa af (aa (aq dM (pv 1) af) ag))) (by with_unfolding_all rfl)) (mx (cY qG (pv 6) (aR (aa af (aa (aq dM (pv 2) af) ag))) (by with_unfolding_all rfl)))))) (aj (aw (i:=7) bY.nd rfl (by trivial) (cY cN (aq bh (aq bg (pv 5) (pv 6)) af) (aq bh (aq b6 (pv 0) af) af) (aL _))))))) pS1x3) ?_;intro kS1x2 pS1x2;refine bQ 1 1 (ai (aw (i:=6) bY.nd rfl (by trivial) (aq b6 (pv 4) (pv 1))) pS1x2) ?_;intro kS1x1 pS1x1;refine bQ 1 0 (ai (aw (i:=5) bY.nd rfl (by trivial) (aq bh (pv 4) (pv 1))) pS1x1) ?_;intro kS1x0 pS1x0;refine ah 1 (ai (cu FZ rfl (bL (by rfl) B.range (aa (aq bZ (pv 1) (pv 2)) ag)) (aK (i:=4) bY.nd rfl (by trivial)) pS1x0) pR2) ?_;intro kR1 pR1;refine⟨_,(ai (aw (i:=3) bY.nd rfl (by trivial) af) pR1),?_⟩;have hwh:w*h<=64:=Nat.mul_le_mul hw8 hh8;have hwp:0<w*h:=Nat.mul_pos hw hh;have e1:((w:Int)*(h:Int))=((w*h:Nat):Int):=by simp
 refine⟨_,rfl,_,rfl,_,_,rfl,rfl,.inl ⟨by lia,by lia⟩,_,rfl,by lia,by lia,?_⟩;refine gb (lo:=0) (fun i σ H2=>∃v o4 o5 o6 o7,σ=[some (.int r),some (.int w),some (.int h),some (.int v),o4,o5,o6,o7]/\ak H H2) ⟨0,none,none,none,none,rfl,ak.refl _⟩ ?_ ?_
 ·rintro i σ H2 hi ⟨v,o4,o5,o6,o7,rfl,s2⟩;refine dB ?_;intro kD1;have hi':i<64:=by
   rw[e1,Gg]at hi
   lia
  have y2:=Int.emod_two_eq (((0+(i:Int)) / (w:Int)) / 2);refine⟨_,rfl,_,rfl,_,_,rfl,rfl,(by lia),_,rfl,_,rfl,_,_,rfl,rfl,⟨by omega,by lia⟩,?_⟩;refine⟨fun σ' H'=>∃b,σ'=[some (.int r),some (.int w),some (.int h),some (.int v),some (.int (0+(i:Int))),some (.int ((0+(i:Int)) % (w:Int))),some (.int ((0+(i:Int)) / (w:Int))),some (.bl b)]/\ak H H',?_,?_⟩
  ·refine fU ?_;intro kD2;refine⟨_,rfl,_,_,rfl,rfl,(by show(0:Int)<_;decide),rfl,_,rfl,?_⟩;refine bw (fun h1=>?_) (fun h1=>?_)
   ·refine⟨_,rfl,_,_,rfl,rfl,(by show(0:Int)<_;decide),rfl,_,rfl,?_⟩;refine bw (fun h2=>?_) (fun h2=>?_)
    ·exact⟨_,rfl,s2⟩
    ·refine⟨_,rfl,_,rfl,_,_,rfl,rfl,aF rfl,fun l hl=>?_⟩;have s3:=s2.trans (ak.upd (o:=.lst [.int ((w:Int)-1),.int 0]) hl);obtain⟨v3,y3⟩:∃v3:Int,atI [V.int ((w:Int)-1),.int 0] ((((0+(i:Int)) / (w:Int)) / 2) % 2)=some (.int v3):=by
      rcases y2 with y2|y2
      ·rw[y2];exact⟨_,rfl⟩
      ·rw[y2];exact⟨_,rfl⟩
     refine⟨_,rfl,_,_,rfl,rfl,⟨by decide,by decide⟩,_,_,rfl,rfl,(by show(0:Int)<_;decide),l,_,_,_,rfl,rfl,SqL.of ae,y3,rfl,?_⟩;exact⟨_,rfl,s3⟩
   ·refine⟨_,rfl,_,_,rfl,rfl,(by show(0:Int)<_;decide),rfl,_,rfl,?_⟩;refine bw (fun h2=>?_) (fun h2=>?_)
    ·refine⟨_,rfl,_,rfl,_,_,rfl,rfl,aF rfl,fun t ht=>?_⟩;have s3:=s2.trans (ak.upd (o:=.tup [.int 0,.int ((w:Int)-1)]) ht);refine⟨t,_,rfl,.inr (SqT.of ae),rfl,rfl,_,rfl,?_⟩;refine bw (fun h3=>?_) (fun h3=>?_)
     ·exact⟨_,rfl,s3⟩
     ·refine⟨_,rfl,_,rfl,_,_,rfl,rfl,aF rfl,fun t2 ht2=>?_⟩;have s4:=s3.trans (ak.upd (o:=.tup [.int 0,.int ((h:Int)-1)]) ht2);refine⟨t2,_,rfl,.inr (SqT.of ae),rfl,rfl,?_⟩;exact⟨_,rfl,s4⟩
    ·refine⟨_,rfl,_,rfl,_,_,rfl,rfl,_,_,rfl,rfl,(by show(0:Int)<_;decide),_,rfl,_,_,rfl,rfl,⟨by decide,by decide⟩,_,_,rfl,rfl,(by show(0:Int)<_;decide),rfl,?_⟩;exact⟨_,rfl,s2⟩
  ·rintro σ' H' ⟨b,rfl,s5⟩;refine⟨_,rfl,_,rfl,_,rfl,_,_,rfl,rfl,⟨by decide,by decide⟩,_,rfl,_,rfl,_,_,rfl,rfl,.inl ⟨by omega,by omega⟩,_,_,rfl,rfl,(by rw[e1];lia),rfl,rfl,_,rfl,?_⟩;refine bw (fun h9=>?_) (fun h9=>?_)
   ·refine⟨_,rfl,_,rfl,_,_,rfl,rfl,⟨by lia,by lia,by decide⟩,_,_,rfl,rfl,?_⟩;exact⟨_,_,_,_,_,rfl,s5⟩
   ·exact⟨_,_,_,_,_,rfl,s5⟩
 ·rintro σ H2 ⟨v,o4,o5,o6,o7,rfl,s2⟩;exact⟨_,rfl,q _ _ s2⟩
def ou(K:Frag):Sp:=fun vs H Q _=>∃(c k:Nat),vs=[.int c,.int k]/\k<=64/\Q (.bl (c.testBit k)) H
variable(aX:Df P w K mg base 1 "_law_has" ["_law_ground","_law_cell"] (ou K))
theorem uX:aB ["_law_ground","_law_cell"] ["_law_ground","_law_cell"] (ao (top 35)):=by trivial
include B in
theorem vg(T:Tx K mg "_law_has" (top 35) ["_law_ground","_law_cell"]):Df P w K mg base 1 "_law_has" ["_law_ground","_law_cell"] (ou K):=by refine T.df uX (by rintro _ _ _ _ ⟨c,k,rfl,hk,q⟩;rfl) ?_;rintro f _ A _ s H _ Q E hr ⟨c,k,rfl,hk,q⟩;refine⟨_,(aj (aE (cY cN (aq bh (aq oK (pv 0) (aq gy af (pv 1))) af) af (aL _)))),?_⟩;refine⟨_,rfl,_,rfl,_,_,rfl,rfl,⟨by lia,by lia,by decide⟩,_,_,rfl,rfl,⟨tR _,A0 k hk⟩,_,_,rfl,rfl,(by show(0:Int)<_;decide),rfl,?_⟩;rw[Bq c k];exact q
def jN(K:Frag):Sp:=fun vs H Q _=>∃(w h k:Int),vs=[.int w,.int h,.int k]/\(0<w/\w<1073741824)/\∀l,H l=none->Q (.ref l) (upd H l (.lst ((zk w h k).map V.int)))
variable(fZ:Df P w K mg base 1 "_law_nearby" ["_law_wide","_law_high","_law_cell"] (jN K))
theorem jU:aB ["_law_wide","_law_high","_law_cell","_law_found"] ["_law_wide","_law_high","_law_cell"] (ao (top 36)):=by trivial
include B in
theorem qa(T:Tx K mg "_law_nearby" (top 36) ["_law_wide","_law_high","_law_cell"]):Df P w K mg base 1 "_law_nearby" ["_law_wide","_law_high","_law_cell"] (jN K):=by
 refine T.df jU (by rintro _ _ _ _ ⟨w,h,k,rfl,hw,q⟩;rfl) ?_;rintro f _ A _ s H _ Q E hr ⟨w,h,k,rfl,hw,q⟩;refine aN ?_;intro kX;refine ah 5 (aj (aE (pv 3))) ?_;intro kR5 pR5;refine ah 4 (bF (aV (aG wB (aq b6 (pv 2) (pv 0)) (aq dM (pv 1) af) (aL _)) (aj (dA (jW Ga GA Gz dY (pv 3) (aa (aq bg (pv 2) (pv 0)) ag)))) aI) pR5) ?_;intro kR4 pR4;refine ah 3 (bF (aV (aG wB (aq bh (pv 2) (pv 0)) (aq dM (pv 0) af) (aL _)) (aj (dA (jW Ga GA Gz dY (pv 3) (aa (aq bg (pv 2) af) ag)))) aI) pR4) ?_;intro kR3 pR3;refine ah 2 (bF (aV (aG nG (aq bh (pv 2) (pv 0)) af (aL _)) (aj (dA (jW Ga GA Gz dY (pv 3) (aa (aq dM (pv 2) af) ag)))) aI) pR3) ?_;intro kR2 pR2;refine ah 1 (bF (aV (aG nG (aq b6 (pv 2) (pv 0)) af (aL _)) (aj (dA (jW Ga GA Gz dY (pv 3) (aa (aq dM (pv 2) (pv 0)) ag)))) aI) pR2) ?_;intro kR1 pR1;refine⟨_,(ai (aw (i:=3) jU.nd rfl (by trivial) (dy ag)) pR1),?_⟩;refine⟨F1 _,fun l hl=>?_⟩;have q':=q l hl;refine⟨fun σ' H'=>σ'=[some (.int w),some (.int h),some (.int k),some (.ref l)]/\H'=upd H l (.lst ((([]:List Int)++if decide (0<k / w)=true then[k-w]else[]).map V.int)),?_,?_⟩
 ·refine fU ?_;intro kD1;refine⟨_,rfl,_,rfl,_,_,rfl,rfl,hw,_,_,rfl,rfl,_,rfl,?_⟩;refine bw (fun h1=>?_) (fun h1=>?_)
  ·refine⟨_,rfl,.inl ⟨rfl,_,SqL.of ae⟩,_,rfl,_,rfl,_,_,rfl,rfl,l,_,_,rfl,rfl,ae,?_,?_⟩
   ·exact aD (by simp only[Fm,Fz,G6];(repeat' split)<;>simp)
   ·have e:(([]:List Int)++if decide (0<k / w)=true then[k-w]else[])=([]:List Int)++[k-w]:=(by rw[FH h1]);refine⟨rfl,?_⟩;rw[bc,e];simp only[FN,FG,List.map_nil,List.nil_append]
  ·have e:(([]:List Int)++if decide (0<k / w)=true then[k-w]else[])=([]:List Int):=(by rw[FA h1,F3]);refine⟨rfl,?_⟩;rw[e]<;>rfl
 rintro σ' H' ⟨rfl,rfl⟩;refine⟨fun σ' H'=>σ'=[some (.int w),some (.int h),some (.int k),some (.ref l)]/\H'=upd H l (.lst (((([]:List Int)++if decide (0<k / w)=true then[k-w]else[])++if decide (0<k % w)=true then[k-1]else[]).map V.int)),?_,?_⟩
 ·refine fU ?_;intro kD2;refine⟨_,rfl,_,rfl,_,_,rfl,rfl,hw.1,_,_,rfl,rfl,_,rfl,?_⟩;refine bw (fun h1=>?_) (fun h1=>?_)
  ·refine⟨_,rfl,.inl ⟨rfl,_,SqL.of ae⟩,_,rfl,_,_,rfl,rfl,l,_,_,rfl,rfl,ae,?_,?_⟩
   ·exact aD (by simp only[Fm,Fz,G6];(repeat' split)<;>simp)
   ·have e:((([]:List Int)++if decide (0<k / w)=true then[k-w]else[])++if decide (0<k % w)=true then[k-1]else[])=(([]:List Int)++if decide (0<k / w)=true then[k-w]else[])++[k-1]:=(by rw[FH h1]);refine⟨rfl,?_⟩;rw[bc,e];simp only[FN,FG,List.map_nil,List.nil_append]
  ·have e:((([]:List Int)++if decide (0<k / w)=true then[k-w]else[])++if decide (0<k % w)=true then[k-1]else[])=(([]:List Int)++if decide (0<k / w)=true then[k-w]else[]):=(by rw[FA h1,F3]);refine⟨rfl,?_⟩;rw[e]<;>rfl
 rintro σ' H' ⟨rfl,rfl⟩;refine⟨fun σ' H'=>σ'=[some (.int w),some (.int h),some (.int k),some (.ref l)]/\H'=upd H l (.lst ((((([]:List Int)++if decide (0<k / w)=true then[k-w]else[])++if decide (0<k % w)=true then[k-1]else[])++if decide (k % w<w-1)=true then[k+1]else[]).map V.int)),?_,?_⟩
 ·refine fU ?_;intro kD3;refine⟨_,rfl,_,rfl,_,_,rfl,rfl,hw.1,_,rfl,_,_,rfl,rfl,_,_,rfl,rfl,_,rfl,?_⟩;refine bw (fun h1=>?_) (fun h1=>?_)
  ·refine⟨_,rfl,.inl ⟨rfl,_,SqL.of ae⟩,_,rfl,_,_,rfl,rfl,l,_,_,rfl,rfl,ae,?_,?_⟩
   ·exact aD (by simp only[Fm,Fz,G6];(repeat' split)<;>simp)
   ·have e:(((([]:List Int)++if decide (0<k / w)=true then[k-w]else[])++if decide (0<k % w)=true then[k-1]else[])++if decide (k % w<w-1)=true then[k+1]else[])=((([]:List Int)++if decide (0<k / w)=true then[k-w]else[])++if decide (0<k % w)=true then[k-1]else[])++[k+1]:=(by rw[FH h1]);refine⟨rfl,?_⟩;rw[bc,e];simp only[FN,FG,List.map_nil,List.nil_append]
  ·have e:(((([]:List Int)++if decide (0<k / w)=true then[k-w]else[])++if decide (0<k % w)=true then[k-1]else[])++if decide (k % w<w-1)=true then[k+1]else[])=((([]:List Int)++if decide (0<k / w)=true then[k-w]else[])++if decide (0<k % w)=true then[k-1]else[]):=(by rw[FA h1,F3]);refine⟨rfl,?_⟩;rw[e]<;>rfl
 rintro σ' H' ⟨rfl,rfl⟩;refine⟨fun σ' H'=>σ'=[some (.int w),some (.int h),some (.int k),some (.ref l)]/\H'=upd H l (.lst (((((([]:List Int)++if decide (0<k / w)=true then[k-w]else[])++if decide (0<k % w)=true then[k-1]else[])++if decide (k % w<w-1)=true then[k+1]else[])++if decide (k / w<h-1)=true then[k+w]else[]).map V.int)),?_,?_⟩
 ·refine fU ?_;intro kD4;refine⟨_,rfl,_,rfl,_,_,rfl,rfl,hw,_,rfl,_,_,rfl,rfl,_,_,rfl,rfl,_,rfl,?_⟩;refine bw (fun h1=>?_) (fun h1=>?_)
  ·refine⟨_,rfl,.inl ⟨rfl,_,SqL.of ae⟩,_,rfl,_,rfl,_,_,rfl,rfl,l,_,_,rfl,rfl,ae,?_,?_⟩
   ·exact aD (by simp only[Fm,Fz,G6];(repeat' split)<;>simp)
   ·have e:((((([]:List Int)++if decide (0<k / w)=true then[k-w]else[])++if decide (0<k % w)=true then[k-1]else[])++if decide (k % w<w-1)=true then[k+1]else[])++if decide (k / w<h-1)=true then[k+w]else[])=(((([]:List Int)++if decide (0<k / w)=true then[k-w]else[])++if decide (0<k % w)=true then[k-1]else[])++if decide (k % w<w-1)=true then[k+1]else[])++[k+w]:=(by rw[FH h1]);refine⟨rfl,?_⟩;rw[bc,e];simp only[FN,FG,List.map_nil,List.nil_append]
  ·have e:((((([]:List Int)++if decide (0<k / w)=true then[k-w]else[])++if decide (0<k % w)=true then[k-1]else[])++if decide (k % w<w-1)=true then[k+1]else[])++if decide (k / w<h-1)=true then[k+w]else[])=(((([]:List Int)++if decide (0<k / w)=true then[k-w]else[])++if decide (0<k % w)=true then[k-1]else[])++if decide (k % w<w-1)=true then[k+1]else[]):=(by rw[FA h1,F3]);refine⟨rfl,?_⟩;rw[e]<;>rfl
 rintro σ' H' ⟨rfl,rfl⟩;refine⟨_,rfl,?_⟩;simp only[List.nil_append,List.append_assoc];exact q'
def m9(K:Frag):Sp:=fun vs H Q _=>∃(z:Int)(c n:Nat),vs=[.int z,.int c,.int n]/\0<n/\c<=1000/\∀k:Nat,k<n->Q (.int k) H
variable(aC:Df P w K mg base 1 "_law_pick" ["_law_cell","_law_salt","_law_many"] (m9 K))
theorem nA:aB ["_law_cell","_law_salt","_law_many","_law_one"] ["_law_cell","_law_salt","_law_many"] (ao (top 39)):=by trivial
include B in
theorem t9(T:Tx K mg "_law_pick" (top 39) ["_law_cell","_law_salt","_law_many"]):Df P w K mg base 1 "_law_pick" ["_law_cell","_law_salt","_law_many"] (m9 K):=by
 refine T.df nA (by rintro _ _ _ _ ⟨z,c,n,rfl,hn,hc,q⟩;rfl) ?_;rintro f _ A _ s H _ Q E hr ⟨z,c,n,rfl,hn,hc,q⟩;refine aN ?_;intro kX;refine ah 1 (aj (aE (aq bh (aq bh (aq bZ (pv 3) (aq bg (pv 3) (pv 1))) af) (pv 2)))) ?_;intro kR1 pR1;refine⟨_,(ai (aw (i:=3) nA.nd rfl (by trivial) (aq bh (aq bg (aq bZ (aq bh (pv 0) af) (aq bg af (aq bZ af (pv 1)))) (aq bZ af (pv 1))) af)) pR1),?_⟩;have a0:=Gq z (show(1000000007:Int)≠0 by decide);have a1:=Gr z (show(0:Int)<1000000007 by decide);refine⟨_,rfl,_,_,rfl,rfl,(by show(0:Int)<_;decide),_,rfl,_,_,rfl,rfl,.inl ⟨by decide,by decide⟩,_,_,rfl,rfl,_,_,rfl,rfl,.inl ⟨by lia,by lia⟩,_,rfl,_,_,rfl,rfl,.inl ⟨by decide,by decide⟩,_,_,rfl,rfl,_,_,rfl,rfl,(by show(0:Int)<_;decide),?_⟩;have b0:=Gq (z % 1000000007*(48271+2*(c:Int))+7919*(c:Int)) (show(1000003:Int)≠0 by decide);have b1:=Gr (z % 1000000007*(48271+2*(c:Int))+7919*(c:Int)) (show(0:Int)<1000003 by decide);refine⟨_,rfl,_,rfl,_,rfl,_,_,rfl,rfl,_,_,rfl,rfl,.inl ⟨by lia,by lia⟩,_,_,rfl,rfl,(by show(0:Int)<_;decide),_,rfl,_,_,rfl,rfl,by omega,?_⟩;generalize (z % 1000000007*(48271+2*(c:Int))+7919*(c:Int)) % 1000003*((z % 1000000007*(48271+2*(c:Int))+7919*(c:Int)) % 1000003+(c:Int)) % 999983=y;have d0:=Gq y (show(n:Int)≠0 by lia);have d1:=Gr y (show(0:Int)<(n:Int) by omega);have e:y % (n:Int)=((y % (n:Int)).toNat:Int):=by lia
 show Q (.int (y % (n:Int))) H;rw[e];exact q _ (by lia)
def ng(K:Frag):Sp:=fun vs H Q _=>∃(k:Nat)(w:Int),vs=[.int k,.int w]/\k<6/\Q (.str (ik w k)) H
variable(cI:Df P w K mg base 1 "_law_name" ["_law_k","_law_way"] (ng K))
theorem nB:aB ["_law_k","_law_way","_law_at_here"] ["_law_k","_law_way"] (ao (top 40)):=by trivial
include B in
theorem ua(T:Tx K mg "_law_name" (top 40) ["_law_k","_law_way"]):Df P w K mg base 1 "_law_name" ["_law_k","_law_way"] (ng K):=by
 refine T.df nB (by rintro _ _ _ _ ⟨k,w,rfl,hk,q⟩;rfl) ?_;rintro f _ A _ s H _ Q E hr ⟨k,w,rfl,hk,q⟩;refine aN ?_;intro kX;refine ah 2 (aj (aE (aq oM (aq oM (d8 yN aS iF (dU (pv 2))) (aJ Dg aS (pv 0) (fun _ _=>rfl))) (d8 yN aS (dU (aq bg (pv 2) af)) iF)))) ?_;intro kR2 pR2;refine ah 1 (ai (aw (i:=2) nB.nd rfl (by trivial) (aq bh (aq b6 (pv 1) af) af)) pR2) ?_;intro kR1 pR1;refine⟨_,(ai (aV (aG cN (aq bh (pv 1) af) af (aL _)) (aj (aE (aq Ba aS (aq bg (pv 0) af)))) aI) pR1),?_⟩;have a0:=Gq (w / 2) (show(5:Int)≠0 by decide);have a1:=Gr (w / 2) (show(0:Int)<5 by decide);unfold ik nmO at q;refine⟨_,rfl,_,_,rfl,rfl,(by show(0:Int)<_;decide),rfl,_,rfl,?_⟩;refine bw (fun h1=>?_) (fun h1=>?_)
 ·have e:w % 2=0:=V.int.inj (F7 h1);rw[FH e]at q;refine⟨_,rfl,_,_,rfl,rfl,_,_,rfl,rfl,by lia,by lia,by decide,?_⟩;exact q
 ·have e:¬w % 2=0:=fun z=>h1 (FQ (by show V.int (w % 2)=V.int 0;rw[z]));rw[FA e]at q;refine⟨_,rfl,_,_,rfl,rfl,⟨by decide,by decide⟩,_,_,rfl,rfl,(by show(0:Int)<_;decide),?_⟩;have at_:atI (Str.ofString "pqrstu").cps.toList ((k:Nat):Int)=some (112+k):=by
   rcases (show k=0\/k=1\/k=2\/k=3\/k=4\/k=5 by lia)with z|z|z|z|z|z<;>subst z<;>decide+kernel
  have l5:(Str.ofString "landa").length<=sizeLine:=by decide+kernel
  have sl:∀lo hi,(Txt.slice (Str.ofString "landa") lo hi).length<=5:=fun lo hi=>by
   have:=Txt.slice_le (Str.ofString "landa") lo hi;have e5:(Str.ofString "landa").length=5:=by decide+kernel
   lia
  have z7:sizeLine>=1000:=by decide
  have c1:(⟨#[112+k]⟩:Str).length=1:=rfl;have s1:=sl none (some (w / 2 % 5));have s2:=sl (some (w / 2 % 5+1)) none;refine⟨_,rfl,_,rfl,_,rfl,l5,_,rfl,_,_,_,rfl,rfl,by decide+kernel,at_,_,_,rfl,rfl,by rw[c1];lia,?_⟩;refine⟨_,rfl,_,_,rfl,rfl,_,rfl,_,rfl,l5,_,_,rfl,rfl,?_,q⟩;rw[BO,c1]
  lia
def oq(K:Frag):Sp:=fun vs H Q _=>∃(t b:Int),vs=[.int t,.int b]/\0<b/\0<t/\Bd 8000 b/\∀l,H l=none->Q (.ref l) (upd H l (.tup [.int (frT t b),.int (frB t b)]))
variable(jH:Df P w K mg base 1 "_law_low" ["_law_top","_law_bottom"] (oq K))
theorem fo:aB ["_law_top","_law_bottom","_law_one","_law_other","_law_rest"] ["_law_top","_law_bottom"] (ao (top 41)):=by trivial
include B in
theorem vf(T:Tx K mg "_law_low" (top 41) ["_law_top","_law_bottom"]):Df P w K mg base 1 "_law_low" ["_law_top","_law_bottom"] (oq K):=by
 refine T.df fo (by rintro _ _ _ _ ⟨t,b,rfl,hb,ht,bd,q⟩;rfl) ?_;rintro f _ A _ s H _ Q E hr ⟨t,b,rfl,hb,ht,bd,q⟩;refine aN ?_;intro kX;refine ah 3 (aj (aE (aR (aa (aq oK (pv 0) (pv 2)) (aa (aq oK (pv 1) (pv 2)) ag))))) ?_;intro kR3 pR3;refine bQ 2 2 (aj (aw (i:=3) fo.nd rfl (by trivial) (pv 4))) ?_;intro kS2x2 pS2x2;refine bQ 2 1 (ai (aw (i:=2) fo.nd rfl (by trivial) (pv 3)) pS2x2) ?_;intro kS2x1 pS2x1;refine bQ 2 0 (ai (aw (i:=4) fo.nd rfl (by trivial) (aq Bb (pv 2) (pv 3))) pS2x1) ?_;intro kS2x0 pS2x0;refine ah 2 (ai (tQ FZ (aG qE (pv 3) af (aL _)) pS2x0) pR3) ?_;intro kR2 pR2;refine ah 1 (ai (aw (i:=3) fo.nd rfl (by trivial) (pv 1)) pR2) ?_;intro kR1 pR1;refine⟨_,(ai (aw (i:=2) fo.nd rfl (by trivial) (pv 0)) pR1),?_⟩;have g:=jt (t:=t) hb;have lg:((Int.gcd t b:Nat):Int).natAbs.log2<9000:=(Bd.gcd (t:=t) bd (by lia)).log2 (by decide);refine⟨_,rfl,_,rfl,?_⟩;refine⟨fun m σ H2=>∃(f r:Int)(o:Option V),σ=[some (.int t),some (.int b),some (.int f),some (.int r),o]/\H2=H/\Int.gcd f r=Int.gcd t b/\0<=f/\0<=r/\m=r.natAbs,⟨_,_,_,_,rfl,rfl,rfl,by omega,by lia,rfl⟩,?_⟩;rintro m σ H2 ⟨f,r,o,rfl,rfl,hg,hf,hr,rfl⟩;refine⟨_,rfl,rfl,_,rfl,?_⟩;refine bw (fun h1=>?_) (fun h1=>?_)
 ·have h1':r≠0:=by
   intro z;rw[z]at h1
   revert h1
   decide
  refine⟨fun σ' H'=>∃o',σ'=[some (.int t),some (.int b),some (.int r),some (.int (f.fmod r)),o']/\H'=H2,?_,?_⟩
  ·rintro σ' H' ⟨o',rfl,rfl⟩;exact⟨_,zN f h1',r,f.fmod r,_,rfl,rfl,(zF f r).trans hg,hr,Int.fmod_nonneg_of_pos f (by lia),rfl⟩
  ·exact⟨_,rfl,_,rfl,_,_,rfl,rfl,h1',_,rfl,_,rfl,_,rfl,rfl⟩
 ·have h1':r=0:=Gn fun z=>h1 (by simp[z]);subst h1';have ef:f=(Int.gcd t b:Int):=by rw[<-hg];simp;lia
  subst ef;refine⟨_,rfl,_,rfl,_,_,rfl,rfl,⟨g,lg⟩,_,rfl,_,rfl,_,_,rfl,rfl,⟨g,lg⟩,aF rfl,fun l hl=>?_⟩;exact q l hl
def gn(K:Frag):Sp:=fun vs H Q _=>∃(k c:Int),vs=[.int k,.int c]/\(0<=k/\k<=100)/\∀H',ak H H'->Q (.int (se k c)) H'
variable(bC:Df P w K mg base 1 "_law_make_number" ["_law_k","_law_cell"] (gn K))
theorem jY:aB ["_law_k","_law_cell"] ["_law_k","_law_cell"] (ao (top 43)):=by trivial
include B in
theorem kc(T:Tx K mg "_law_make_number" (top 43) ["_law_k","_law_cell"]):Df P w K mg base 1 "_law_make_number" ["_law_k","_law_cell"] (gn K):=by
 refine T.df jY (by rintro _ _ _ _ ⟨k,c,rfl,⟨k0,k1⟩,q⟩;rfl) ?_;rintro f _ A _ s H _ Q E hr ⟨k,c,rfl,⟨k0,k1⟩,q⟩;refine⟨_,(aj (aE (aq bg af (aq bZ (aq bh (aq bg (aq bZ (pv 0) af) (pv 1)) af) (aJ bV (dy (aa af (aa af ag))) (aq bh (aq b6 (pv 1) af) af) (fun _ _=>rfl)))))),?_⟩;have a0:=Gq (k*7919+c) (show(9973:Int)≠0 by decide);have a1:=Gr (k*7919+c) (show(0:Int)<9973 by decide);refine⟨_,rfl,_,_,rfl,rfl,.inl ⟨by lia,by lia⟩,_,rfl,_,_,rfl,rfl,_,_,rfl,rfl,(by show(0:Int)<_;decide),aF rfl,fun l hl=>?_⟩;have s1:=ak.upd (o:=.lst [V.int 1,V.int 100003]) hl;have b0:=Gq (c / 9973) (show(2:Int)≠0 by decide);have b1:=Gr (c / 9973) (show(0:Int)<2 by decide);have hv:atI [V.int 1,V.int 100003] (c / 9973 % 2)=some (.int (if c / 9973 % 2=0 then 1 else 100003)):=by
  rcases (show c / 9973 % 2=0\/c / 9973 % 2=1 by lia)with z|z
  ·rw[z];rfl
  ·rw[z];rfl
 refine⟨_,rfl,_,_,rfl,rfl,⟨by decide,by decide⟩,_,_,rfl,rfl,(by show(0:Int)<_;decide),l,_,_,_,rfl,rfl,SqL.of ae,hv,_,_,rfl,rfl,.inl ⟨by lia,by lia⟩,_,_,rfl,rfl,?_⟩;exact q _ s1
def gg(K:Frag):Sp:=fun vs H Q _=>∃(d:Addr)(kvs:List (Key×V))(g:Nat->Option Col)(ks:List Nat),vs=[.ref d]/\H d=some (.dK kvs)/\GD K H kvs g/\(kvs.map fun q=>kV q.1)=NV ks/\ks.Pairwise (·<·)/\ks.length<=64/\(∀i,i∈ks<->(g i).isSome=true)/\(∀i∈ks,i<64)/\∀l R H',ak H H'->StrT K H' l R->bj g R->Q (.ref l) H'
variable(bB:Df P w K mg base 1 "_law_make_strips" ["_law_columns"] (gg K))
theorem cj:aB ["_law_columns","_law_found","_law_places","_law_cell","_law_column"] ["_law_columns"] (ao (top 47)):=by trivial
include B in
theorem j8(T:Tx K mg "_law_make_strips" (top 47) ["_law_columns"]):Df P w K mg base 1 "_law_make_strips" ["_law_columns"] (gg K):=by
 refine T.df cj (by rintro _ _ _ _ ⟨d,kvs,g,ks,rfl,hd,hg,hk,ndk,lk,memk,k64,q⟩;rfl) ?_;rintro f _ A _ s H _ Q E hr ⟨d,kvs,g,ks,rfl,hd,hg,hk,ndk,lk,memk,k64,q⟩;have hu:=hr.units;refine aN ?_;intro kX;refine ah 3 (aj (aE (bU b9 (by rfl) B.tuple boot_tuple (aa (bI ["_law_one"] [] (fb _ []) rfl (by rfl) rfl (by trivial) (by trivial) (aP (by rfl)) (b8 (by rfl)) mN mN (bu (by decide)) (cX (pv 1)) (fun _ _ _ _=>aK (i:=0) (show(["_law_one"]:List Str).Nodup by trivial) rfl (Or.inl rfl) (Or.inr rfl)) (fun _ _ _ _=>bz) (fun _ _ _ _=>(aR (aa (aJ (lN (K:=K) rfl) (pv 0) af (fun _ _=>rfl)) (aa (aJ (lN (K:=K) rfl) (pv 0) af (fun _ _=>rfl)) ag))))) ag)))) ?_;intro kR3 pR3;refine bQ 2 2 (aj (u4 (aq bg (aJ bV (aJ bV (pv 1) (rJ hu (pv 2) (pv 4) (fun _ _=>rfl)) (fun _ _=>rfl)) af (fun _ _=>rfl)) (aq gy af (pv 3))) (y8 (aJ bV (pv 1) (rJ hu (pv 2) (pv 4) (fun _ _=>rfl)) (fun _ _=>rfl)) af set_list))) ?_;intro kS2x2 pS2x2;refine bQ 2 1 (bF (aV (CA (xF hu (pv 4) (pv 2))) (ai (wj hu (pv 2) (pv 4) (aY bO (by rfl) B.len G2 (aa (pv 1) ag)) rfl) (aj (dA (jW Ga GA Gz dY (pv 1) (aa (dy (aa af (aa (pv 4) ag))) ag))))) aI) pS2x2) ?_;intro kS2x1 pS2x1;refine bQ 2 0 (ai (aw (i:=4) cj.nd rfl (by trivial) (jz (iq hr) (pv 0) (pv 3) (fun _ _=>rfl))) pS2x1) ?_;intro kS2x0 pS2x0;refine ah 2 (ai (cu FZ rfl (cX (aY (LT.kA rfl) (by rfl) B.sorted (by trivial) (aa (pv 0) ag))) (aK (i:=3) cj.nd rfl (by trivial)) pS2x0) pR3) ?_;intro kR2 pR2;refine ah 1 (ai (aw (i:=2) cj.nd rfl (by trivial) tX) pR2) ?_;intro kR1 pR1;refine⟨_,(ai (aw (i:=1) cj.nd rfl (by trivial) (dy ag)) pR1),?_⟩;refine⟨aF rfl,fun l1 hl1=>?_⟩;refine fun dp hdp hsm=>?_;have n12:l1≠dp:=fun e=>by rw[<-e,ae]at hdp;cases hdp
 have hdp0:H dp=none:=by rw[<-hdp,au n12.symm]
 have s0:ak H (upd (upd H l1 (.lst [])) dp (fT dp fQ)):=(ak.upd hl1).trans (ak.upd hdp);have M0:MsG P w K H (upd (upd H l1 (.lst [])) dp (fT dp fQ)) l1 dp (bq g 0) (msk g 0) [] fQ []:=⟨s0,hl1,hdp0,(fun _ z=>nomatch z),(by rw[au n12];exact ae),(fun z=>nomatch z),List.nodup_nil,.nil,⟨ae,pE _ _,hsm,(fun _ z=>nomatch z)⟩,.nil⟩;refine⟨_,rfl,d,kvs,ks.map (fun k:Nat=>(k:Int)),rfl,.inl (s0 _ _ hd),by rw[hk,GB];rfl,by rw[Fm];lia,GI.mpr (ndk.imp fun h=>by lia),fun l3 ns' hl3 pm so=>?_⟩;obtain⟨cs,pc,rfl⟩:=LT.tT pm;have n31:l3≠l1:=fun z=>by rw[z,au n12,ae]at hl3;cases hl3
 have soc:cs.Pairwise (·<·):=by
  have h1:cs.Pairwise (·<=·):=by rw[GI]at so;exact so.imp fun h=>by lia
  have h2:=List.nodup_iff_pairwise_ne.mp (pc.nodup_iff.mpr (ndk.imp F4));exact(h1.and h2).imp fun⟨a,b⟩=>by lia
 have memc:∀i,i∈cs<->(g i).isSome=true:=fun i=>by rw[pc.mem_iff];exact memk i
 have c64:∀i∈cs,i<64:=fun i hi=>k64 i (pc.mem_iff.mp hi);have lc:=pc.length_eq;refine⟨l3,rfl,⟨_,SqL.of ae⟩,d9 (K:=K) (a:=l3) (xs:=(cs.map fun k:Nat=>(k:Int)).map V.int) (fun i σ H2=>∃(o3 o4:Option V)(m:Nat)(as:List Addr)(o:Obj)(T:CT),σ=[some (.ref d),some (.ref l1),some (.ref dp),o3,o4]/\H2 l3=some (.lst ((cs.map fun k:Nat=>(k:Int)).map V.int))/\MsG P w K H H2 l1 dp (bq g m) (msk g m) as o T/\m<=64/\¬l3∈as/\∀t,t∈cs.take i<->t∈cs/\t<m) ?_ ?_ ?_ ?_⟩
 ·exact⟨none,none,0,[],fQ,[],rfl,ae,M0.same (ak.upd hl3),by decide,(fun z=>nomatch z),fun t=>by simp⟩
 ·rintro i σ H2 _ ⟨o3,o4,m,as,o,T,rfl,h3,_⟩;exact SqL.of h3
 ·rintro i y σ H2 hi ⟨o3,o4,m,as,o,T,rfl,h3,M,m64,nl3,tk⟩;refine dB ?_;intro kD1;obtain⟨c,hc,rfl⟩:∃c,cs[i]?=some c/\y=.int ((c:Nat):Int):=by
   rw[FO,FO]at hi;cases e:cs[i]? with
   |none=>rw[e]at hi;cases hi
   |some c=>rw[e]at hi;cases hi;exact⟨c,rfl,rfl⟩
  have cm:c∈cs:=Fs hc;have c6:=c64 c cm;obtain⟨b,col,e1,e2,hb0⟩:∃b col,eK kvs (.inl (c:Int))=some (.ref b)/\g c=some col/\bJ K H b col:=by
   rcases hg c with z|z
   ·have:=(memc c).mp cm;rw[z.2]at this;cases this
   ·exact z
  have pt:=wc soc hc;have mc:m<=c:=Gn fun z=>by
   have:=(pt c).mp ((tk c).mpr ⟨cm,by lia⟩)
   lia
  have none':∀j,m<=j->j<c->g j=none:=fun j h1 h2=>by
   cases e:g j with
   |none=>rfl
   |some x=>
    have jm:j∈cs:=(memc j).mpr (by rw[e];rfl);have:=((tk j).mp ((pt j).mpr ⟨jm,h2⟩)).2
    lia
  obtain⟨ed,em⟩:=kx mc none';have M1:MsG P w K H H2 l1 dp (bq g c) (msk g c) as o T:=by rw[ed];exact M.congr fun x=>(em x).symm
  have hd2:=M1.sm _ _ hd;have dg:=pP.k (k:=.inl (c:Int)) hd2;rw[e1]at dg;have hb2:=hb0.tk M1.sm.tk;have dl:=mV g c;refine⟨_,rfl,_,rfl,d,_,rfl,dg,?_⟩;refine⟨fun σ' H'=>∃(as:List Addr)(o:Obj)(T:CT),σ'=[some (.ref d),some (.ref l1),some (.ref dp),some (.int (c:Nat)),some (.ref b)]/\H' l3=some (.lst ((cs.map fun k:Nat=>(k:Int)).map V.int))/\MsG P w K H H' l1 dp (bq g (c+1)) (msk g c) as o T/\¬l3∈as/\bJ K H' b col,?_,?_⟩
  ·refine fU ?_;intro kD2;refine⟨_,rfl,_,rfl,dp,o,T,b,col,rfl,M1.co,rfl,hb2,_,rfl,?_⟩;by_cases hin:col∈bq g c
   ·obtain⟨j,hj,ej⟩:=G0 hin;rw[M1.place (lW g c) (j:=j) (c:=col) (by rw[Fy hj,ej])];refine fM ?_;exact⟨as,o,T,rfl,h3,by rw[lX e2 hin];exact M1,nl3,hb2⟩
   ·rw[M1.noplace hin];refine ip ?_;have la:=M1.len;have lt:=M1.tlen;refine⟨_,rfl,l1,_,rfl,.inl (SqL.of M1.hl),_,rfl,_,rfl,dp,o,T,b,col,rfl,M1.co,rfl,hb2,by lia,fun o' ho'=>?_⟩;rw[Fm]at ho';have d1:l1≠dp:=n12;have hl5:(upd H2 dp (fT dp o')) l1=some (.lst (as.map V.ref)):=(by rw[au d1];exact M1.hl);refine⟨_,rfl,.inl ⟨rfl,_,SqL.of hl5⟩,_,rfl,aF rfl,fun a5 ha5=>?_⟩;have a5l:l1≠a5:=fun z=>by rw[<-z,hl5]at ha5;cases ha5
    have a53:l3≠a5:=fun z=>by rw[<-z,au (gU h3 M1.co.1 (fun z=>nomatch z)),h3]at ha5;cases ha5
    have hl6:(upd (upd H2 dp (fT dp o')) a5 (.lst [.int 0,.ref b])) l1=some (.lst (as.map V.ref)):=(by rw[au a5l];exact hl5);refine⟨l1,_,_,rfl,rfl,hl6,aD (by rw[Fm];lia),?_⟩;have MN:=M1.new hin (Bk hin) hb2 ho' ha5;refine⟨as++[a5],o',_,rfl,?_,by rw[jF e2 hin];exact MN,fun z=>?_,hb0.tk MN.sm.tk⟩
    ·rw[au n31,au a53,au (gU h3 M1.co.1 (fun z=>nomatch z))];exact h3
    ·rcases FC.mp z with y|y
     ·exact nl3 y
     ·exact a53 (Fq.mp y)
  ·rintro σ' H5 ⟨as,o,T,rfl,h35,M5,nl5,hb5⟩;clear M M1 dg tk;have cin:col∈bq g (c+1):=(gf g col (c+1)).mpr ⟨c,by omega,e2⟩;have nd:=lW g (c+1);obtain⟨j,hj,ej⟩:=G0 cin;have hj':(bq g (c+1))[j]?=some col:=(by rw[Fy hj,ej]);have la:=M5.len;have ja:j<as.length:=(by lia);have haj:as[j]?=some as[j]:=Fy ja;obtain⟨col',e5,b',ha,hb'⟩:=aM M5.pr haj;rw[hj']at e5;cases e5;have pla:=M5.place nd hj';have hat:atI (as.map V.ref) ((j:Nat):Int)=some (.ref as[j]):=az (by rw[FO,haj];rfl);have ex:((msk g c col:Nat):Int)+1*2^((c:Nat):Int).toNat=((msk g c col+2^c:Nat):Int):=by
    rw[Int.one_mul,Gg,Int.natCast_add,Int.natCast_pow];rfl
   refine⟨_,rfl,_,rfl,_,rfl,dp,o,T,b,col,_,rfl,M5.co,rfl,hb5,pla,l1,_,_,_,rfl,rfl,SqL.of M5.hl,hat,as[j],_,_,_,rfl,rfl,SqL.of ha,az (j:=0) rfl,_,rfl,_,_,rfl,rfl,⟨by lia,by lia,by decide⟩,_,_,rfl,rfl,?_⟩;refine⟨_,rfl,_,rfl,_,rfl,dp,o,T,b,col,_,rfl,M5.co,rfl,hb5,pla,l1,_,_,_,rfl,rfl,SqL.of M5.hl,hat,as[j],_,_,0,rfl,rfl,ha,wJ (j:=0) (by simp),?_⟩;show ∃(o3 o4:Option V)(m:Nat)(as':List Addr)(o:Obj)(T:CT),_/\(upd H5 as[j] (.lst [V.int (((msk g c col:Nat):Int)+1*2^((c:Nat):Int).toNat),.ref b'])) l3=_/\MsG P w K H (upd H5 as[j] (.lst [V.int (((msk g c col:Nat):Int)+1*2^((c:Nat):Int).toNat),.ref b'])) l1 dp _ _ as' o T/\_;rw[ex];refine⟨_,_,c+1,as,o,T,rfl,?_,(M5.bump nd (x:=msk g c col+2^c) hj' haj ha hb').congr fun y=>?_,by lia,nl5,yW soc hc⟩
   ·rw[au (fun z=>nl5 (by rw[z];exact List.getElem_mem ja))];exact h35
   ·show(if y=col then _ else _)=(if g c=some y then _ else _);by_cases z:y=col
    ·subst z;rw[FH rfl,FH e2]
    ·rw[FA z,FA (fun q=>z (by rw[e2]at q;exact(F0 q).symm))]
 ·rintro σ H2 ⟨o3,o4,m,as,o,T,rfl,h3,M,m64,nl3,tk⟩;rw[Fm,Fm,FU]at tk;obtain⟨ed,em⟩:=kx (g:=g) m64 fun j h1 h2=>by
   cases e:g j with
   |none=>rfl
   |some x=>
    have:=((tk j).mp ((memc j).mpr (by rw[e];rfl))).2
    lia
  have M1:MsG P w K H H2 l1 dp (bq g 64) (msk g 64) as o T:=by rw[ed];exact M.congr fun x=>(em x).symm
  have la:=M1.len;have dl:=mV g 64;clear M tk ed em;refine⟨_,rfl,l1,rfl,⟨_,SqL.of M1.hl⟩,fun D hD=>?_⟩;refine qN (K:=K) (a:=l1) (xs:=as.map V.ref) (fun i acc H3=>ak H2 H3/\H3 D=some (.lst acc)/\Paired (fg K H3) acc (((bq g 64).take i).map fun c=>(msk g 64 c,c))) ⟨ak.upd hD,ae,.nil⟩ (fun i acc H3 _ ⟨s3,_⟩=>SqL.of (s3 _ _ M1.hl)) ?_ ?_
  ·rintro i x acc H3 hi ⟨s3,h3,pr3⟩;refine dD ?_;intro kq3 kr3;obtain⟨a,ha,rfl⟩:∃a,as[i]?=some a/\x=.ref a:=by
    rw[FO]at hi;cases e:as[i]? with
    |none=>rw[e]at hi;cases hi
    |some a=>rw[e]at hi;cases hi;exact⟨a,rfl,rfl⟩
   obtain⟨c,hc,b,e,hb⟩:=aM M1.pr ha;have il:i<as.length:=(FD.mp ha).1;refine⟨_,rfl,a,_,_,_,rfl,rfl,SqL.of (s3 _ _ e),az (j:=0) rfl,_,rfl,a,_,_,_,rfl,rfl,SqL.of (s3 _ _ e),az (j:=1) rfl,aF rfl,fun r4 hr4=>?_⟩;have s4:=ak.upd (o:=.tup [.int (msk g 64 c:Nat),.ref b]) hr4;have lacc:acc.length<sizeLine:=by rw[Fx pr3,Fm,FK];exact aD (by lia)
   refine⟨s4 _ _ h3,lacc,?_,ae,?_⟩
   ·intro b5 o5 e5;rw[au (fun z=>by rw[z,hD]at e5;cases e5)];exact s4 _ _ (s3 _ _ e5)
   ·rw[FJ,hc,F2,FN];have tk2:=TK.lst (o:=.lst (acc++[.ref r4])) (s4 _ _ h3);exact Paired.app (Paired.imp (fun _ _ z=>(z.tk s4.tk).tk tk2) pr3) (.cons (fg.tk tk2 ⟨r4,b,rfl,SqT.of ae,hb.tk (s3.trans s4).tk⟩) .nil)
  ·rintro acc H3 ⟨s3,h3,pr3⟩;rw[Fm,la,FU]at pr3;refine⟨D,_,rfl,.inl ⟨SqL.of h3,fun l6 hl6=>?_⟩⟩;have s6:=ak.upd (o:=.tup acc) hl6;exact q l6 _ _ (M1.sm.trans (s3.trans s6)) ⟨acc,SqT.of ae,Paired.imp (fun _ _ z=>z.tk s6.tk) pr3⟩ (uR g)
def gv(K:Frag):Sp:=fun vs H Q _=>∃(v:V)(p:Plt)(rs:List (List Key)),vs=[v]/\PlE K H v p/\jw rs p.R/\∀(l:Addr)(ys:List V)(T:Col) H',ak H H'->SqL K H' l ys->Paired (bS K H') ys T->ml (p.R.map (·.2)) T->Q (.ref l) H'
variable(aZ:Df P w K mg base 1 "_law_all_burdens" ["_law_plot"] (gv K))
theorem cq:aB ["_law_plot","_law_found","_law_cells","_law_column","_law_burden"] ["_law_plot"] (ao (top 55)):=by trivial
include B in
theorem kj(T:Tx K mg "_law_all_burdens" (top 55) ["_law_plot"]):Df P w K mg base 1 "_law_all_burdens" ["_law_plot"] (gv K):=by
 refine T.df cq (by rintro _ _ _ _ ⟨v,p,rs,rfl,hp,hN,q⟩;rfl) ?_;rintro f _ A _ s H _ Q E hr ⟨v,p,rs,rfl,hp,hN,q⟩;have hu:=hr.units;refine aN ?_;intro kX;refine ah 2 (aj (aE (bI ["_law_number"] [("_law_found",1)] (fb _ ["_law_found"]) rfl (by rfl) rfl (by trivial) (by trivial) (aP (by rfl)) (b8 (by rfl)) (mC ⟨rfl,rfl⟩ mN) (mC rfl mN) (bu (by decide)) (cX (aY (kB rfl) (by rfl) B.sorted (by trivial) (aa (pv 1) ag))) (fun _ _ _ _=>aK (i:=0) (show(["_law_number","_law_found"]:List Str).Nodup by trivial) rfl (Or.inl rfl) (Or.inr rfl)) (fun _ _ _ _=>bz) (fun _ _ _ _=>(jz (iq hr) (pv 1) (pv 0) (fun _ _=>rfl)))))) ?_;intro kR2 pR2;refine ah 1 (ai (cu FZ rfl (eO (aJ aO (pv 0) af (fun _ _=>rfl))) (rG rfl (fL (aK (i:=2) cq.nd rfl (by trivial)) (fL (aK (i:=3) cq.nd rfl (by trivial)) nW))) (aj (cu FZ rfl (eO (pv 3)) (aK (i:=4) cq.nd rfl (by trivial)) (aj (iE (iq hr) (pv 1) (aJ aO (pv 4) af (fun _ _=>rfl)) (pv 4) rfl))))) pR2) ?_;intro kR1 pR1;refine⟨_,(ai (aw (i:=1) cq.nd rfl (by trivial) jj) pR1),?_⟩;obtain⟨l,ls,lr,rfl,h1,h2,xs,hl,pr⟩:=hp;have nd:=hN.nd;have hib:=hN.bur;have hsub:∀c∈p.R.map (·.2),∀r∈c,r∈rs:=fun c hc r hr=>by obtain⟨q0,hq0,rfl⟩:=Fp.mp hc;exact hN.sub q0 hq0 r hr
 have inj:=mI nd;have lx:xs.length=(p.R.map (·.2)).length:=by rw[Fm];exact Fx pr
 have hrs:=hN.l59;have len:∀(D:List (List Key)),(D.map av).Nodup->(∀r∈D,r∈rs)->D.length<=59:=fun D n1 h1=>by
  have:=Gb n1 (l₂:=rs.map av) fun x hx=>by obtain⟨r,hr,e⟩:=Fp.mp hx;exact Fp.mpr ⟨r,h1 r hr,e⟩
  rw[Fm,Fm]at this
  lia
 intro d hd;refine⟨_,rfl,l,_,_,_,rfl,rfl,(ak.upd hd).tup h1,az (j:=2) rfl,lr,rfl,⟨_,(ak.upd hd).tup hl⟩,gW (K:=K) (a:=lr) (xs:=xs) (fun i σ H2=>∃(o1 o2 o3:Option V)(kvs:List (Key×V))(D:List (List Key)),σ=[some (.ref l),some (.ref d),o1,o2,o3]/\H2=upd H d (.dK kvs)/\Paired (KB K H) kvs D/\(D.map av).Nodup/\∀r,r∈D<->∃c∈(p.R.map (·.2)).take i,r∈c) ⟨none,none,none,[],[],rfl,rfl,.nil,List.nodup_nil,fun r=>by simp⟩ (fun i σ H2 _ hPz=>hPz.elim fun _ hPz=>hPz.elim fun _ hPz=>hPz.elim fun _ hPz=>hPz.elim fun _ hPz=>hPz.elim fun _ hPz=>(fun e=>by rw[e];exact(ak.upd hd).tup hl) (hPz.2.1)) ?_ ?_⟩
 ·rintro i y σ H2 hi ⟨o1,o2,o3,kvs,D,rfl,rfl,kb,nd2,hD⟩;refine dB ?_;intro kD1;obtain⟨q0,hq0,r1,b,rfl,hr1,hb⟩:=aM pr hi;obtain⟨c,ec⟩:∃c,c=q0.2:=⟨_,rfl⟩;rw[<-ec]at hb;have hc:(p.R.map (·.2))[i]?=some c:=by rw[FO,hq0,ec];rfl
  have cin:=Fs hc;obtain⟨lay,ys,hy,py⟩:=id hb;have ly:ys.length=c.length:=Fx py;refine⟨r1,_,rfl,(ak.upd hd).tup hr1,rfl,_,_,rfl,_,_,rfl,rfl,?_⟩;refine⟨_,rfl,b,rfl,⟨_,(ak.upd hd).tup hy⟩,gW (K:=K) (a:=b) (xs:=ys) (fun j σ H2=>∃(o3:Option V)(kvs:List (Key×V))(D:List (List Key)),σ=[some (.ref l),some (.ref d),some (.int (q0.1:Nat)),some (.ref b),o3]/\H2=upd H d (.dK kvs)/\Paired (KB K H) kvs D/\(D.map av).Nodup/\∀r,r∈D<->(∃c'∈(p.R.map (·.2)).take i,r∈c')\/r∈c.take j) ⟨o3,kvs,D,rfl,rfl,kb,nd2,fun r=>by rw[hD];simp⟩ (fun j σ H2 _ hPz=>hPz.elim fun _ hPz=>hPz.elim fun _ hPz=>hPz.elim fun _ hPz=>(fun e=>by rw[e];exact(ak.upd hd).tup hy) (hPz.2.1)) ?_ ?_⟩
  ·rintro j y σ H2 hj ⟨o3',kvs',D',rfl,rfl,kb',nd',hD'⟩;refine dB ?_;intro kD2;obtain⟨r,hr,a,rfl,ha⟩:=aM py hj;have rin:r∈c:=Fs hr;have rrs:=hsub c cin r rin;have bur:bS K H (.ref a) r:=⟨lay r rin,a,rfl,ha⟩;have Dsub:∀x∈D',x∈rs:=fun x hx=>by
    rcases (hD' x).mp hx with⟨c',hc',z⟩|z
    ·exact hsub c' (Gw hc') x z
    ·exact hsub c cin x (Gw z)
   have ub:∀x∈D',av x=av r->x=r:=fun x hx e=>inj x (Dsub x hx) r rrs e;have lk:kvs'.length<=59:=(by rw[Fx kb'];exact len D' nd' Dsub);have put:=zy bur kb' ub;have fin:∀x,x∈mY D' r<->(∃c'∈(p.R.map (·.2)).take i,x∈c')\/x∈c.take (j+1):=fun x=>by rw[pJ ub,hD',FJ,hr,F2,FC,Fq,or_assoc]
   have nda:=tD (r:=r) nd';obtain⟨n,k,x,m,u,er⟩:=hib r rrs;have en:av r=n:=(by rw[er];rfl);rw[en]at put;rw[er]at ha;refine⟨_,rfl,_,rfl,_,rfl,a,_,_,_,rfl,rfl,(ak.upd hd).tup ha,(az (j:=0) rfl),d,_,rfl,pN.k (k:=.inl n) ae (aD (by lia)),?_⟩;exact⟨_,_,mY D' r,rfl,by rw[bc],put,nda,fin⟩
  ·rintro σ H2 ⟨o3',kvs',D',rfl,rfl,kb',nd',hD'⟩;refine⟨_,_,_,kvs',D',rfl,rfl,kb',nd',fun r=>?_⟩;rw[hD',ly,FU,FJ,hc,F2];constructor
   ·rintro(⟨c',h1,h2⟩|h)
    ·exact⟨c',FR _ h1,h2⟩
    ·exact⟨c,FX _ (Fq.mpr rfl),h⟩
   ·rintro⟨c',h1,h2⟩;rcases FC.mp h1 with z|z
    ·exact .inl ⟨c',z,h2⟩
    ·rw[Fq.mp z]at h2;exact .inr h2
 ·rintro σ H2 ⟨o1,o2,o3,kvs,D,rfl,rfl,kb,nd2,hD⟩;rw[lx,FU]at hD;have Dsub:∀x∈D,x∈rs:=fun x hx=>by
   obtain⟨c',hc',z⟩:=(hD x).mp hx;exact hsub c' hc' x z
  have lD:=len D nd2 Dsub;have s1:=ak.upd (o:=.dK kvs) hd;have hd1:(upd H d (.dK kvs)) d=some (.dK kvs):=ae;generalize (upd H d (.dK kvs))=H1 at s1 hd1 ⊢;refine⟨_,rfl,d,kvs,D.map av,rfl,.inl hd1,wH kb,by rw[Fm];lia,fun l4 ns' hl4 pm so=>?_⟩;have s4:=ak.upd (o:=.lst (ns'.map V.int)) hl4;have h4:(upd H1 l4 (.lst (ns'.map V.int))) l4=some (.lst (ns'.map V.int)):=ae;have ln:ns'.length<=59:=by rw[pm.length_eq,Fm];exact lD
  have hd4:=s4 _ _ hd1;have s14:=s1.trans s4;generalize (upd H1 l4 (.lst (ns'.map V.int)))=H4 at s4 h4 hd4 s14 ⊢;refine⟨l4,rfl,⟨_,SqL.of h4⟩,fun A1 hA1=>?_⟩;refine qN (K:=K) (a:=l4) (xs:=ns'.map V.int) (fun i acc H5=>H5=upd H4 A1 (.lst acc)/\∃T:List (List Key),Paired (bS K H) acc T/\T.map av=ns'.take i/\∀r∈T,r∈D) ⟨rfl,[],.nil,rfl,fun _ z=>nomatch z⟩ (fun i acc H5 _ ⟨e,_⟩=>by rw[e];exact(ak.upd hA1).seq (SqL.of h4)) ?_ ?_
  ·rintro i y acc H5 hi ⟨rfl,T,pT,mT,sT⟩;refine dD ?_;intro kq3 kr3;obtain⟨n,hn,rfl⟩:∃n,ns'[i]?=some n/\y=.int n:=by
    rw[FO]at hi;cases e:ns'[i]? with
    |none=>rw[e]at hi;cases hi
    |some n=>rw[e]at hi;cases hi;exact⟨n,rfl,rfl⟩
   obtain⟨v,r,ev,hr,er,hv⟩:=zx kb (pm.mem_iff.mp (Fs hn));have dg:=pP.k (k:=.inl n) ((ak.upd (o:=.lst acc) hA1) _ _ hd4);rw[ev]at dg;refine⟨_,rfl,_,rfl,d,_,rfl,dg,ae,aD ?_,by rw[bc],T++[r],Paired.app pT (.cons hv .nil),?_,fun x hx=>?_⟩
   ·have l1:acc.length=T.length:=Fx pT;have l2:=congrArg List.length mT;rw[Fm,FK]at l2
    lia
   ·rw[FN,mT,FJ,hn,F2,FG,List.map_nil,er]
   ·rcases FC.mp hx with z|z
    ·exact sT x z
    ·rw[Fq.mp z];exact hr
  ·rintro acc H5 ⟨rfl,T,pT,mT,sT⟩;rw[Fm,FU]at mT;have s5:=ak.upd (o:=.lst acc) hA1;exact q A1 acc T _ (s14.trans s5) (SqL.of ae) (Paired.imp (fun _ _ z=>bS.tk (s14.trans s5).tk z) pT) (Ah nd2 hD pm so mT sT)
def iX(K:Frag):Sp:=fun vs H Q _=>∃(l sg:Addr)(ss xs:List Str),vs=[.ref l,.ref sg]/\SqL K H l (SV xs)/\SqT K H sg (SV ss)/\(∀x∈ss,PyData.canLay0 (.str x)=true)/\(∀x∈xs,PyData.canLay0 (.str x)=true)/\Q (BX (fH ss xs)) H
variable(fE:Df P w K mg base 1 "_law_wanting" ["_law_names","_law_signed"] (iX K))
theorem i9:aB ["_law_names","_law_signed","_law_name_here"] ["_law_names","_law_signed"] (ao (top 58)):=by trivial
include B in
theorem oO(T:Tx K mg "_law_wanting" (top 58) ["_law_names","_law_signed"]):Df P w K mg base 1 "_law_wanting" ["_law_names","_law_signed"] (iX K):=by
 refine T.df i9 (by rintro _ _ _ _ ⟨l,sg,ss,xs,rfl,hl,hs,lss,lxs,q⟩;rfl) ?_;rintro f _ A _ s H _ Q E hr ⟨l,sg,ss,xs,rfl,hl,hs,lss,lxs,q⟩;have hu:=hr.units;refine aN ?_;intro kX;refine ah 1 (aj (aE cH)) ?_;intro kR1 pR1;refine⟨_,(ai (cu FZ rfl (cX (pv 0)) (aK (i:=2) i9.nd rfl (by trivial)) (aj (aV (aG (eV hu) (pv 2) (pv 1) (by with_unfolding_all rfl)) (aj (aE (pv 2))) aI))) pR1),?_⟩;refine⟨_,rfl,l,rfl,⟨_,hl⟩,d9 (K:=K) (a:=l) (xs:=SV xs) (fun i σ H2=>∃o2:Option V,σ=[some (.ref l),some (.ref sg),o2]/\H2=H/\fH ss xs=fH ss (xs.drop i)) ⟨none,rfl,rfl,rfl⟩ (fun i σ H2 _ hPz=>hPz.elim fun _ hPz=>(fun e=>by rw[e];exact hl) (hPz.2.1)) ?_ ?_⟩
 ·rintro i y σ H2 hi ⟨o2,rfl,rfl,e⟩;refine dB ?_;intro kD1;obtain⟨x,hx,rfl⟩:∃x,xs[i]?=some x/\y=.str x:=by
   rw[show SV xs=xs.map V.str from rfl,FO]at hi;cases e:xs[i]? with
   |none=>rw[e]at hi;cases hi
   |some x=>rw[e]at hi;cases hi;exact⟨x,rfl,rfl⟩
  rw[iK hx,hW]at e;refine⟨_,rfl,_,rfl,.str x,ss.map PyData.str,.str _,.inr (.tup hs (jD ss)),lxs x (Fs hx),oZ lss,FF rfl,_,rfl,?_⟩;rw[pI];refine bw (fun h2=>?_) (fun h2=>?_)
  ·have h2':x∉ss:=(by simpa using h2);rw[FA h2']at e;rw[e]at q;exact⟨_,rfl,q⟩
  ·have h2':x∈ss:=(by simpa using h2);rw[FH h2']at e;exact⟨_,rfl,rfl,e⟩
 ·rintro σ H2 ⟨o2,rfl,rfl,e⟩;rw[show(SV xs).length=xs.length from Fm _,List.drop_length]at e;rw[e]at q;exact q
def m7(K:Frag):Sp:=fun vs H Q _=>∃(a:Addr)(n h:Int)(c:Col),vs=[.ref a,.int n,.int h]/\bJ K H a c/\GoodC c/\∀(l:Addr)(i j:Nat) H',ak H H'->SqT K H' l [.int i,.int j]->((ff n c i/\ff h c j)\/(i=0/\j=0/\((∀r∈c,av r≠n)\/∀r∈c,av r≠h)))->Q (.ref l) H'
variable(iM:Df P w K mg base 1 "_law_span" ["_law_column","_law_number","_law_ahead"] (m7 K))
theorem ny:aB ["_law_column","_law_number","_law_ahead","_law_numbers"] ["_law_column","_law_number","_law_ahead"] (ao (top 62)):=by trivial
include B in
theorem t7(T:Tx K mg "_law_span" (top 62) ["_law_column","_law_number","_law_ahead"]):Df P w K mg base 1 "_law_span" ["_law_column","_law_number","_law_ahead"] (m7 K):=by
 refine T.df ny (by rintro _ _ _ _ ⟨a,n,h,c,rfl,hc,good,q⟩;rfl) ?_;rintro f _ A _ s H _ Q E hr ⟨a,n,h,c,rfl,hc,good,q⟩;have hu:=hr.units;refine aN ?_;intro kX;refine ah 2 (aj (aE (aR (aa (jW Ga PySem.F.slot_list_index PySem.F.type_list_index (um hu) (pv 3) (aa (pv 1) ag)) (aa (jW Ga PySem.F.slot_list_index PySem.F.type_list_index (um hu) (pv 3) (aa (pv 2) ag)) ag))))) ?_;intro kR2 pR2;refine ah 1 (ai (aV ((nF (aG (eV hu) (pv 1) (pv 3) (by with_unfolding_all rfl)) (jd (aG (eV hu) (pv 2) (pv 3) (by with_unfolding_all rfl)))).pt) (aj (aE (aR (aa af (aa af ag))))) aI) pR2) ?_;intro kR1 pR1;refine⟨_,(ai (jx (i:=3) ny.nd rfl (by trivial) ["_law_burden"] [] (fb _ []) rfl (by rfl) rfl (by trivial) (by trivial) (aP (by rfl)) (b8 (by rfl)) mN mN (bu (by decide)) (eO (pv 0)) (fun _ _ _ _=>aK (i:=0) (show(["_law_burden"]:List Str).Nodup by trivial) rfl (Or.inl rfl) (Or.inr rfl)) (fun _ _ _ _=>bz) (fun _ _ _ _=>(aJ (c7 (K:=K) rfl) (pv 0) af (fun _ _=>rfl)))) pR1),?_⟩;obtain⟨xs,hx,pr⟩:=hc.bur;have lx:xs.length=c.length:=Fx pr;refine⟨_,rfl,a,rfl,⟨_,hx⟩,fun A hA=>?_⟩;have sA:∀o:HO,ak H (upd H A o):=fun o=>ak.upd hA;have g20:=good.2.2;refine nM (K:=K) (a:=a) (xs:=xs) (fun i acc H2=>H2=upd H A (.lst acc)/\acc=((c.take i).map av).map V.int) ⟨rfl,rfl⟩ (fun i acc H2 _ ⟨e,_⟩=>by rw[e];exact(sA _).tup hx) ?_ ?_
 ·rintro i y acc H2 hi ⟨rfl,rfl⟩;refine dD ?_;intro kq1 kr1;have hb:=good.1;obtain⟨r,hr,bur⟩:=aM pr hi;obtain⟨lay,ab,rfl,ha⟩:=id bur;obtain⟨nn,k,x,m,u,er⟩:=hb r (Fs hr);have en:av r=nn:=by rw[er];rfl
  rw[er]at ha;have tk:c.take (i+1)=c.take i++[r]:=by rw[FJ,hr];rfl
  have i100:i<xs.length:=(FD.mp hi).1;refine⟨_,rfl,ab,_,_,_,rfl,rfl,(sA _).tup ha,az (j:=0) rfl,ae,?_,by rw[bc],?_⟩
  ·rw[Fm,Fm,FK];exact aD (by lia)
  ·rw[tk,FN,FN,Gy,Gy,en];rfl
 rintro acc H2 ⟨rfl,rfl⟩;rw[lx,FU];have s2:=sA (.lst ((c.map av).map V.int));have hA2:(upd H A (.lst ((c.map av).map V.int))) A=some (.lst ((c.map av).map V.int)):=ae;generalize (upd H A (.lst ((c.map av).map V.int)))=H2 at s2 hA2 ⊢;have rd:∀{n:Int},n∉c.map av->∀r∈c,av r≠n:=fun h r hr e=>h (Fp.mpr ⟨r,hr,e⟩);have at1:∀{n:Int}{i:Nat},ff n c i->((c.map av).map PyData.int)[i]?=some (.int n):=fun {n i} ⟨r,hr,e,_⟩=>by rw[FO,FO,hr,<-e];rfl
 have at2:∀{n:Int}{i m:Nat}{e:PyData},ff n c i->m<i->((c.map av).map PyData.int)[m]?=some e->PyData.eqv e (.int n)=false:=fun {n i m e} ⟨r,hr,_,hb⟩ lt he=>by
  rw[FO,FO]at he;cases hm:c[m]? with
  |none=>rw[hm]at he;cases he
  |some r'=>rw[hm]at he;cases he;rw[nY];exact FY (hb m r' lt hm)
 refine⟨_,rfl,_,rfl,.int n,(c.map av).map PyData.int,.int _,.inl (.lst (SqL.of hA2) (gF _)),rfl,gC _,FF rfl,_,rfl,?_⟩;rw[mj];refine bw (fun z=>?_) (fun z=>?_)
 ·have z':n∉c.map av:=by simpa using z
  refine⟨aF rfl,fun t ht=>q t 0 0 _ (s2.trans (ak.upd ht)) (SqT.of ae) (.inr ⟨rfl,rfl,.inl (rd z')⟩)⟩
 have zn:n∈c.map av:=by simpa using z
 refine⟨_,rfl,_,rfl,.int h,(c.map av).map PyData.int,.int _,.inl (.lst (SqL.of hA2) (gF _)),rfl,gC _,FF rfl,_,rfl,?_⟩;rw[mj];refine bw (fun z2=>?_) (fun z2=>?_)
 ·have z':h∉c.map av:=by simpa using z2
  refine⟨aF rfl,fun t ht=>q t 0 0 _ (s2.trans (ak.upd ht)) (SqT.of ae) (.inr ⟨rfl,rfl,.inr (rd z')⟩)⟩
 have zh:h∈c.map av:=by simpa using z2
 obtain⟨i,hi⟩:=zK zn;obtain⟨j,hj⟩:=zK zh;refine⟨_,rfl,.inl ⟨rfl,_,SqL.of hA2⟩,_,rfl,A,_,_,.int n,(c.map av).map PyData.int,i,rfl,rfl,hA2,gF _,.int _,rfl,gC _,FF rfl,⟨.int n,at1 hi,by rw[nY];exact FQ rfl⟩,fun m e lt he=>at2 hi lt he,_,rfl,.inl ⟨rfl,_,SqL.of hA2⟩,_,rfl,A,_,_,.int h,(c.map av).map PyData.int,j,rfl,rfl,hA2,gF _,.int _,rfl,gC _,FF rfl,⟨.int h,at1 hj,by rw[nY];exact FQ rfl⟩,fun m e lt he=>at2 hj lt he,aF rfl,fun t ht=>?_⟩;exact q t i j _ (s2.trans (ak.upd ht)) (SqT.of ae) (.inl ⟨hi,hj⟩)
def kM(K:Frag):Sp:=fun vs H Q _=>∃(r:Addr)(m:Nat)(rest:List V),vs=[.ref r]/\SqT K H r (.int (m:Nat)::rest)/\m<2^64/\m≠0/\Q (.int (LM.bW m:Nat)) H
variable(gZ:Df P w K mg base 2 "lowest_of" ["strip"] (kM K))
theorem rm:aB ["strip"] ["strip"] (ao (top 8)):=by trivial
include B md in
theorem rR(T:Tx K mg "lowest_of" (top 8) ["strip"]):Df P w K mg base 2 "lowest_of" ["strip"] (kM K):=by refine T.df rm (by rintro _ _ _ _ ⟨r,m,rest,rfl,hr1,hm,h0,q⟩;rfl) ?_;rintro f _ A _ s H _ Q E hr ⟨r,m,rest,rfl,hr1,hm,h0,q⟩;refine⟨_,(aj (aE (aA md hr (aa (aJ aO (pv 0) af (fun _ _=>rfl)) ag)))),?_⟩;exact⟨_,rfl,r,_,_,_,rfl,rfl,hr1,(az (j:=0) rfl),m,rfl,hm,fun z=>absurd z h0,fun _=>q⟩
def jQ(K:Frag):Sp:=fun vs H Q _=>∃(a:Addr)(R:cf)(rs:List (List Key)),vs=[.ref a]/\StrT K H a R/\R.length<=100/\(∀p∈R,∀r∈p.2,r∈rs)/\rs.length<=59/\(∀r∈rs,du r)/\(rs.map av).Nodup/\∀(b:Addr)(T:Col)(H':Hp),ak H H'->ml (R.map (·.2)) T->bJ K H' b T->Q (.ref b) H'
variable(f7:Df P w K mg base 2 "burdens_on" ["strips"] (jQ K))
theorem pX:aB ["strips"] ["strips"] (ao (top 11)):=by trivial
include B dh in
theorem qe(T:Tx K mg "burdens_on" (top 11) ["strips"]):Df P w K mg base 2 "burdens_on" ["strips"] (jQ K):=by
 refine T.df pX (by rintro _ _ _ _ ⟨a,R,rs,rfl,hT,hz,hsub,hrs,hib,nd,q⟩;rfl) ?_;rintro f _ A _ s H _ Q E hr ⟨a,R,rs,rfl,hT,hz,hsub,hrs,hib,nd,q⟩;refine⟨_,(aj (aE (aA dh hr (aa (bI ["strip"] [] (fb _ []) rfl (by rfl) rfl (by trivial) (by trivial) (aP (by rfl)) (b8 (by rfl)) mN mN (bu (by decide)) (eO (pv 0)) (fun _ _ _ _=>aK (i:=0) (show(["strip"]:List Str).Nodup by trivial) rfl (Or.inl rfl) (Or.inr rfl)) (fun _ _ _ _=>bz) (fun _ _ _ _=>(aJ (c7 (K:=K) rfl) (pv 0) af (fun _ _=>rfl)))) ag)))),?_⟩;obtain⟨vs,ha,pr⟩:=hT;have lv:vs.length=R.length:=Fx pr;refine⟨_,rfl,a,rfl,⟨_,ha⟩,fun A1 hA1=>?_⟩;refine nM (K:=K) (a:=a) (xs:=vs) (fun i acc H2=>H2=upd H A1 (.lst acc)/\Paired (qm K H) acc ((R.take i).map (·.2))) ⟨rfl,.nil⟩ (fun i acc H2 _ ⟨e,_⟩=>by rw[e];exact(ak.upd hA1).tup ha) ?_ ?_
 ·rintro i y acc H2 hi ⟨rfl,pc⟩;refine dD ?_;intro kq1 kr1;obtain⟨p,hp,r1,b,rfl,h1,hb⟩:=aM pr hi;refine⟨_,rfl,r1,_,_,_,rfl,rfl,(ak.upd hA1).tup h1,(az (j:=1) rfl),ae,aD ?_,by rw[bc],?_⟩
  ·rw[Fx pc,Fm,FK];lia
  ·rw[FJ,hp,F2,FN];exact Paired.app pc (.cons ⟨b,rfl,hb⟩ .nil)
 ·rintro acc H2 ⟨rfl,pc⟩;rw[lv,FU]at pc;have s1:=ak.upd (o:=.lst acc) hA1;refine⟨A1,acc,_,rs,rfl,SqL.of ae,Paired.imp (fun _ _ z=>qm.tk s1.tk z) pc,fun c hc r hr=>?_,hrs,hib,nd,fun b T H' s' hB hT'=>q b T H' (s1.trans s') hB hT'⟩;obtain⟨p,hp,rfl⟩:=Fp.mp hc;exact hsub p hp r hr
def oo(K:Frag):Sp:=fun vs H Q _=>∃(l:Addr)(xs:List V)(gs:List Nat)(c:Nat),vs=[.ref l,.int c]/\(SqL K H l xs\/SqT K H l xs)/\Paired (HdE K H) xs gs/\c<=64/\Q (cS xs gs c) H
variable(jG:Df P w K mg base 2 "plot_at" ["plots","cell"] (oo K))
theorem oy:aB ["plots","cell","plot"] ["plots","cell"] (ao (top 13)):=by trivial
include B w8 in
theorem ve(T:Tx K mg "plot_at" (top 13) ["plots","cell"]):Df P w K mg base 2 "plot_at" ["plots","cell"] (oo K):=by
 refine T.df oy (by rintro _ _ _ _ ⟨l,xs,gs,c,rfl,hl,pr,hc,q⟩;rfl) ?_;rintro f _ A _ s H _ Q E hr ⟨l,xs,gs,c,rfl,hl,pr,hc,q⟩;refine aN ?_;intro kX;refine ah 1 (aj (aE cH)) ?_;intro kR1 pR1;refine⟨_,(ai (cu FZ rfl (y6 (pv 0)) (aK (i:=2) oy.nd rfl (by trivial)) (aj (aV (eY (aA w8 hr (aa (aJ aO (pv 2) af (fun _ _=>rfl)) (aa (pv 1) ag)))) (aj (aE (pv 2))) aI))) pR1),?_⟩;rcases hl with hl|hl
 ·refine .inl ⟨_,rfl,l,rfl,⟨_,hl⟩,d9 (K:=K) (a:=l) (xs:=xs) (fun i σ H2=>∃o2:Option V,σ=[some (.ref l),some (.int c),o2]/\H2=H/\cS xs gs c=cS (xs.drop i) (gs.drop i) c) ⟨none,rfl,rfl,rfl⟩ (fun i σ H2 _ hPz=>hPz.elim fun _ hPz=>(fun e=>by rw[e];exact hl) (hPz.2.1)) ?_ ?_⟩
  ·rintro i y σ H2 hi ⟨o2,rfl,rfl,e⟩;refine dB ?_;intro kD1;obtain⟨g,hg,r,rest,rfl,h1⟩:=aM pr hi;rw[iI hi hg]at e;refine⟨_,rfl,r,_,_,_,rfl,rfl,h1,(az (j:=0) rfl),_,rfl,g,c,rfl,_,rfl,?_⟩;rw[show(decide (0<=((c:Nat):Int))&&g.testBit ((c:Nat):Int).toNat)=g.testBit c by simp];refine bw (fun h2=>?_) (fun h2=>?_)
   ·rw[FH h2]at e;refine⟨_,rfl,?_⟩;rw[e]at q;exact q
   ·rw[FA h2]at e;exact⟨_,rfl,rfl,e⟩
  ·rintro σ H2 ⟨o2,rfl,rfl,e⟩;rw[List.drop_length]at e;have e2:cS xs gs c=.non:=(by rw[e];rfl);rw[e2]at q;exact q
 ·refine .inr ⟨_,rfl,l,rfl,⟨_,hl⟩,gW (K:=K) (a:=l) (xs:=xs) (fun i σ H2=>∃o2:Option V,σ=[some (.ref l),some (.int c),o2]/\H2=H/\cS xs gs c=cS (xs.drop i) (gs.drop i) c) ⟨none,rfl,rfl,rfl⟩ (fun i σ H2 _ hPz=>hPz.elim fun _ hPz=>(fun e=>by rw[e];exact hl) (hPz.2.1)) ?_ ?_⟩
  ·rintro i y σ H2 hi ⟨o2,rfl,rfl,e⟩;refine dB ?_;intro kD2;obtain⟨g,hg,r,rest,rfl,h1⟩:=aM pr hi;rw[iI hi hg]at e;refine⟨_,rfl,r,_,_,_,rfl,rfl,h1,(az (j:=0) rfl),_,rfl,g,c,rfl,_,rfl,?_⟩;rw[show(decide (0<=((c:Nat):Int))&&g.testBit ((c:Nat):Int).toNat)=g.testBit c by simp];refine bw (fun h2=>?_) (fun h2=>?_)
   ·rw[FH h2]at e;refine⟨_,rfl,?_⟩;rw[e]at q;exact q
   ·rw[FA h2]at e;exact⟨_,rfl,rfl,e⟩
  ·rintro σ H2 ⟨o2,rfl,rfl,e⟩;rw[List.drop_length]at e;have e2:cS xs gs c=.non:=(by rw[e];rfl);rw[e2]at q;exact q
def kL(K:Frag):Sp:=fun vs H Q _=>∃(a:Addr)(n h:Int)(c:Col),vs=[.ref a,.int n,.int h]/\bJ K H a c/\(∀r∈c,du r)/\∀b H',ak H H'->bJ K H' b (dX n h c)->Q (.ref b) H'
variable(dO:Df P w K mg base 2 "passed_in" ["column","number","ahead"] (kL K))
theorem iC:aB ["column","number","ahead","first","moved"] ["column","number","ahead"] (ao (top 22)):=by trivial
include B c8 in
theorem rQ(T:Tx K mg "passed_in" (top 22) ["column","number","ahead"]):Df P w K mg base 2 "passed_in" ["column","number","ahead"] (kL K):=by
 refine T.df iC (by rintro _ _ _ _ ⟨a,n,h,c,rfl,hc,hb,q⟩;rfl) ?_;rintro f _ A _ s H _ Q E hr ⟨a,n,h,c,rfl,hc,hb,q⟩;refine aN ?_;intro kX;refine ah 3 (aj (aE (d8 iA (pv 0) (dU (pv 3)) (dU (pv 4))))) ?_;intro kR3 pR3;refine ah 2 (ai (aV ((nF (aG hJ (pv 3) cH (aL _)) (jd (aG hJ (pv 4) cH (aL _)))).pt) (aj (aE (aR ag))) aI) pR3) ?_;intro kR2 pR2;refine ah 1 (ai (aw (i:=4) iC.nd rfl (by trivial) (aA c8 hr (aa (pv 0) (aa (pv 2) ag)))) pR2) ?_;intro kR1 pR1;refine⟨_,(ai (aw (i:=3) iC.nd rfl (by trivial) (aA c8 hr (aa (pv 0) (aa (pv 1) ag)))) pR1),?_⟩;obtain⟨xs,hx,pr⟩:=hc.bur;have lx:xs.length=c.length:=Fx pr;refine⟨_,rfl,_,rfl,a,n,c,rfl,hc,hb,fun H1 s1=>⟨fun i hi=>?_,fun hn=>?_⟩⟩
 ·refine⟨_,rfl,_,rfl,a,h,c,rfl,hc.tk s1.tk,hb,fun H2 s2=>⟨fun j hj=>?_,fun hn=>?_⟩⟩
  ·have il:=hi.lt;have jl:=hj.lt;refine⟨_,rfl,rfl,_,rfl,fM ⟨_,rfl,rfl,_,rfl,fM ?_⟩⟩;refine⟨_,rfl,_,rfl,_,rfl,_,rfl,_,rfl,a,xs,rfl,(s1.trans s2).tup hx,fun r H3 s3 h3=>?_⟩;have sA:=s1.trans (s2.trans s3);have ec:gO xs (some (i:Int)) (some (j:Int))=(xs.drop i).take (j-i):=by
    unfold gO;rw[HT.iD,HT.iD,Nat.min_eq_left (by lia),Nat.min_eq_left (by lia)]
   rw[ec]at h3;refine q r H3 sA ?_;rw[jk hi hj];exact bJ.of h3 (bG _ (bG _ (Paired.imp (fun _ _ z=>bS.tk sA.tk z) pr)).2).1
  ·refine⟨_,rfl,rfl,_,rfl,fM ⟨_,rfl,rfl,_,rfl,ip ?_⟩⟩;refine⟨aF rfl,fun r hr=>q r _ (s1.trans (s2.trans (ak.upd hr))) ?_⟩;rw[nX hn];exact bJ.of (SqT.of ae) .nil
 ·refine⟨_,rfl,_,rfl,a,h,c,rfl,hc.tk s1.tk,hb,fun H2 s2=>⟨fun j hj=>?_,fun hn2=>?_⟩⟩
  ·refine⟨_,rfl,rfl,_,rfl,ip ?_⟩;refine⟨aF rfl,fun r hr=>q r _ (s1.trans (s2.trans (ak.upd hr))) ?_⟩;rw[lj hn];exact bJ.of (SqT.of ae) .nil
  ·refine⟨_,rfl,rfl,_,rfl,ip ?_⟩;refine⟨aF rfl,fun r hr=>q r _ (s1.trans (s2.trans (ak.upd hr))) ?_⟩;rw[lj hn];exact bJ.of (SqT.of ae) .nil
def ic(K:Frag)(mg:Str->Option Value):Sp:=fun vs H Q _=>∃(a C dx sg:Addr)(num since c n:Int),vs=[.ref a,.int num,.int since,.ref sg,.int c,.int n]/\H a=some (.ins C dx [])/\uM K mg C/\Q .non (upd H a (.ins C dx (lG num since sg c n)))
variable(eJ:DfT P w K mg base CX0 2 bb "__init__" ["self","number","since","signed","at","burden"] (ic K mg) [])
theorem mw:aB ["self","number","since","signed","at","burden"] ["self","number","since","signed","at","burden"] (ao eA):=by trivial
include B bN cy fj bM in
theorem mH(T:TxM K bb "__init__" "Lift.__init__" eA ["self","number","since","signed","at","burden"] []):DfT P w K mg base CX0 2 bb "__init__" ["self","number","since","signed","at","burden"] (ic K mg) []:=by refine T.df mw (by rintro _ _ _ _ ⟨a,C,dx,sg,num,since,c,n,rfl,ha,D,q⟩;rfl) ?_;rintro f _ A _ s H _ Q E hr ⟨a,C,dx,sg,num,since,c,n,rfl,ha,D,q⟩;refine aN ?_;intro kX;refine ah 2 (aj (je (pv 0) (pv 5) rfl)) ?_;intro kR2 pR2;refine ah 1 (ai (je (pv 0) (pv 4) rfl) pR2) ?_;intro kR1 pR1;refine⟨_,(ai (dA (tW bM bN hr (aa (pv 0) (aa (pv 1) (aa (pv 2) (aa (pv 3) ag)))))) pR1),?_⟩;refine⟨_,rfl,_,rfl,_,rfl,_,rfl,a,C,dx,sg,num,since,rfl,ha,D.pap,?_⟩;refine⟨_,rfl,_,rfl,a,C,dx,_,rfl,ae,D.pap.cls,D.at',(by show 3<1000;decide),?_⟩;refine⟨_,rfl,_,rfl,a,C,dx,_,rfl,ae,D.pap.cls,D.bur,(by show 4<1000;decide),?_⟩;simp only[bc];exact q
def gQ(K:Frag)(mg:Str->Option Value):Sp:=fun vs H Q _=>∃(a C dx sg:Addr)(num since c n h:Int),vs=[.ref a,.int num,.int since,.ref sg,.int c,.int n,.int h]/\H a=some (.ins C dx [])/\uM K mg C/\ba K C "ahead"/\Q .non (upd H a (.ins C dx (qW num since sg c n h)))
variable(d4:DfT P w K mg base CX0 2 aQ "__init__" ["self","number","since","signed","at","burden","ahead"] (gQ K mg) [])
theorem kY:aB ["self","number","since","signed","at","burden","ahead"] ["self","number","since","signed","at","burden","ahead"] (ao dR):=by trivial
include B bN cy dP bM in
theorem lB(T:TxM K aQ "__init__" "Waive.__init__" dR ["self","number","since","signed","at","burden","ahead"] []):DfT P w K mg base CX0 2 aQ "__init__" ["self","number","since","signed","at","burden","ahead"] (gQ K mg) []:=by refine T.df kY (by rintro _ _ _ _ ⟨a,C,dx,sg,num,since,c,n,h,rfl,ha,D,na,q⟩;rfl) ?_;rintro f _ A _ s H _ Q E hr ⟨a,C,dx,sg,num,since,c,n,h,rfl,ha,D,na,q⟩;refine aN ?_;intro kX;refine ah 3 (aj (je (pv 0) (pv 6) rfl)) ?_;intro kR3 pR3;refine ah 2 (ai (je (pv 0) (pv 5) rfl) pR3) ?_;intro kR2 pR2;refine ah 1 (ai (je (pv 0) (pv 4) rfl) pR2) ?_;intro kR1 pR1;refine⟨_,(ai (dA (tW bM bN hr (aa (pv 0) (aa (pv 1) (aa (pv 2) (aa (pv 3) ag)))))) pR1),?_⟩;refine⟨_,rfl,_,rfl,_,rfl,_,rfl,a,C,dx,sg,num,since,rfl,ha,D.pap,?_⟩;refine⟨_,rfl,_,rfl,a,C,dx,_,rfl,ae,D.pap.cls,D.at',(by show 3<1000;decide),?_⟩;refine⟨_,rfl,_,rfl,a,C,dx,_,rfl,ae,D.pap.cls,D.bur,(by show 4<1000;decide),?_⟩;refine⟨_,rfl,_,rfl,a,C,dx,_,rfl,ae,D.pap.cls,na,(by show 5<1000;decide),?_⟩;simp only[bc];exact q
def gp(K:Frag):Sp:=fun vs H Q _=>∃(c:Int)(w h:Nat),vs=[.int c,.int w,.int h]/\(0<w/\w<=8/\0<h/\h<=8)/\∀(v:Nat) H',v<2^(w*h)->ak H H'->Q (.int v) H'
variable(dG:Df P w K mg base 2 "_law_make_ground" ["_law_cell","_law_wide","_law_high"] (gp K))
theorem aW:aB ["_law_cell","_law_wide","_law_high","_law_many","_law_rest","_law_way","_law_found"] ["_law_cell","_law_wide","_law_high"] (ao (top 34)):=by trivial
include B c9 g5 in
theorem ke(T:Tx K mg "_law_make_ground" (top 34) ["_law_cell","_law_wide","_law_high"]):Df P w K mg base 2 "_law_make_ground" ["_law_cell","_law_wide","_law_high"] (gp K):=by
 refine T.df aW (by rintro _ _ _ _ ⟨c,w,h,rfl,⟨hw,hw8,hh,hh8⟩,q⟩;rfl) ?_;rintro f _ A _ s H _ Q E hr ⟨c,w,h,rfl,⟨hw,hw8,hh,hh8⟩,q⟩;refine aN ?_;intro kX;refine ah 9 (aj (aE (aq bh (pv 6) (aq gy af (pv 3))))) ?_;intro kR9 pR9;refine ah 8 (bF (aV (aG cN (pv 5) af (aL _)) (aj (aw (i:=6) aW.nd rfl (by trivial) (aJ bV (dy (aa af (aa (aq gy af (aq bh (pv 4) (pv 3))) (aa (aq dM (aq gy af (pv 3)) af) ag)))) (aq bh (aq b6 (pv 4) (pv 3)) af) (fun _ _=>rfl)))) aI) pR9) ?_;intro kR8 pR8;refine ah 7 (bF (aV (aG cN (pv 5) af (aL _)) (aj (aw (i:=6) aW.nd rfl (by trivial) (aA g5 hr (aa (pv 4) (aa (pv 1) (aa (pv 2) ag)))))) aI) pR8) ?_;intro kR7 pR7;refine ah 6 (bF (aV (aG cN (pv 5) af (aL _)) (aj (aw (i:=6) aW.nd rfl (by trivial) (aq dM (aq dM (aq gy af (pv 3)) af) (aq gy af (aq bh (pv 4) (pv 3)))))) aI) pR7) ?_;intro kR6 pR6;refine ah 5 (bF (aV (aG cN (pv 5) af (aL _)) (aj (aw (i:=6) aW.nd rfl (by trivial) (aq vc (pv 6) (aA c9 hr (aa (aq bg (aq b6 (pv 4) af) af) ag))))) aI) pR6) ?_;intro kR5 pR5;refine ah 4 (bF (aV (aG cN (pv 5) af (aL _)) (aj (aw (i:=6) aW.nd rfl (by trivial) (aq B6 (pv 6) (aA c9 hr (aa (aq bg (aq b6 (pv 4) af) af) ag))))) aI) pR5) ?_;intro kR4 pR4;refine ah 3 (ai (aw (i:=6) aW.nd rfl (by trivial) (aA c9 hr (aa (pv 4) ag))) pR4) ?_;intro kR3 pR3;refine ah 2 (ai (aw (i:=5) aW.nd rfl (by trivial) (aq bh (pv 0) af)) pR3) ?_;intro kR2 pR2;refine ah 1 (ai (aw (i:=4) aW.nd rfl (by trivial) (aq b6 (pv 0) af)) pR2) ?_;intro kR1 pR1;refine⟨_,(ai (aw (i:=3) aW.nd rfl (by trivial) (aq bZ (pv 1) (pv 2))) pR1),?_⟩;have hwh:w*h<=64:=Nat.mul_le_mul hw8 hh8;have hwp:0<w*h:=Nat.mul_pos hw hh;have e1:((w:Int)*(h:Int))=((w*h:Nat):Int):=by simp
 have fin:∀(v:Int) H',ak H H'->Q (.int (v % (1*2^(((w*h:Nat):Int)).toNat))) H':=fun v H' s=>by obtain⟨z,ez,hz⟩:=Bl v (w*h);rw[ez];exact q z H' hz s
 refine⟨_,rfl,_,rfl,_,_,rfl,rfl,.inl ⟨by omega,by omega⟩,_,rfl,_,_,rfl,rfl,⟨by decide,by decide⟩,_,rfl,_,_,rfl,rfl,(by show(0:Int)<_;decide),?_⟩;simp only[e1];refine⟨_,rfl,_,rfl,fun v=>?_⟩;have s0:=ak.refl H;refine⟨fun σ' H'=>∃v:Int,σ'=[some (.int c),some (.int w),some (.int h),some (.int ((w*h:Nat):Int)),some (.int (c / 8)),some (.int (c % 8)),some (.int v)]/\ak H H',?_,?_⟩
 ·refine fU ?_;intro kD1;refine⟨_,rfl,rfl,_,rfl,?_⟩;refine bw (fun h1=>?_) (fun h1=>?_)
  ·refine⟨_,rfl,_,rfl,_,_,rfl,rfl,⟨by decide,by decide⟩,_,_,rfl,rfl,_,rfl,fun v2=>⟨_,_,rfl,rfl,?_⟩⟩;exact⟨_,rfl,s0⟩
  ·exact⟨_,rfl,s0⟩
 rintro σ' H1 ⟨v,rfl,s1⟩;refine⟨fun σ' H'=>∃v:Int,σ'=[some (.int c),some (.int w),some (.int h),some (.int ((w*h:Nat):Int)),some (.int (c / 8)),some (.int (c % 8)),some (.int v)]/\ak H H',?_,?_⟩
 ·refine fU ?_;intro kD2;refine⟨_,rfl,rfl,_,rfl,?_⟩;refine bw (fun h1=>?_) (fun h1=>?_)
  ·refine⟨_,rfl,_,rfl,_,_,rfl,rfl,⟨by decide,by decide⟩,_,_,rfl,rfl,_,rfl,fun v2=>⟨_,_,rfl,rfl,?_⟩⟩;exact⟨_,rfl,s1⟩
  ·exact⟨_,rfl,s1⟩
 rintro σ' H2 ⟨v,rfl,s2⟩;refine⟨fun σ' H'=>∃v:Int,σ'=[some (.int c),some (.int w),some (.int h),some (.int ((w*h:Nat):Int)),some (.int (c / 8)),some (.int (c % 8)),some (.int v)]/\ak H H',?_,?_⟩
 ·refine fU ?_;intro kD3;refine⟨_,rfl,rfl,_,rfl,?_⟩;refine bw (fun h1=>?_) (fun h1=>?_)
  ·refine⟨_,rfl,_,_,rfl,rfl,⟨by lia,by lia,by decide⟩,_,_,rfl,rfl,_,rfl,_,rfl,_,_,rfl,rfl,(by lia),_,_,rfl,rfl,⟨Gq _ (by lia),by have:=Gr (c / 8) (show(0:Int)<((w*h:Nat):Int) by omega);lia,by decide⟩,_,_,rfl,rfl,?_⟩;exact⟨_,rfl,s2⟩
  ·exact⟨_,rfl,s2⟩
 rintro σ' H3 ⟨v,rfl,s3⟩;refine⟨fun σ' H'=>∃v:Int,σ'=[some (.int c),some (.int w),some (.int h),some (.int ((w*h:Nat):Int)),some (.int (c / 8)),some (.int (c % 8)),some (.int v)]/\ak H H',?_,?_⟩
 ·refine fU ?_;intro kD4;refine⟨_,rfl,rfl,_,rfl,?_⟩;refine bw (fun h1=>?_) (fun h1=>?_)
  ·refine⟨_,rfl,_,rfl,_,rfl,_,w,h,rfl,⟨hw,hw8,hh,hh8⟩,fun v4 H' s'=>?_⟩;exact⟨_,rfl,s3.trans s'⟩
  ·exact⟨_,rfl,s3⟩
 rintro σ' H4 ⟨v,rfl,s4⟩;refine⟨fun σ' H'=>∃v:Int,σ'=[some (.int c),some (.int w),some (.int h),some (.int ((w*h:Nat):Int)),some (.int (c / 8)),some (.int (c % 8)),some (.int v)]/\ak H H',?_,?_⟩
 ·refine fU ?_;intro kD5;refine⟨_,rfl,rfl,_,rfl,?_⟩;refine bw (fun h1=>?_) (fun h1=>?_)
  ·refine⟨_,rfl,_,rfl,_,_,rfl,rfl,(by omega),_,_,rfl,rfl,⟨Gq _ (by omega),by have:=Gr (c / 8) (show(0:Int)<((w*h:Nat):Int) by omega);omega,by decide⟩,_,rfl,_,_,rfl,rfl,⟨by omega,by omega,by decide⟩,_,_,rfl,rfl,aF rfl,fun l hl=>?_⟩;have y3:∃v5:Int,atI [V.int 0,.int (1*2^(c / 8 % ((w*h:Nat):Int)).toNat),.int (1*2^(((w*h:Nat):Int)).toNat-1)] (c / 8 / ((w*h:Nat):Int) % 3)=some (.int v5):=by
    have y4:c / 8 / ((w*h:Nat):Int) % 3=0\/c / 8 / ((w*h:Nat):Int) % 3=1\/c / 8 / ((w*h:Nat):Int) % 3=2:=(by lia);rcases y4 with y|y|y<;>rw[y]<;>exact⟨_,rfl⟩
   obtain⟨v5,y3⟩:=y3;refine⟨_,rfl,_,rfl,_,_,rfl,rfl,⟨by omega,by lia⟩,_,_,rfl,rfl,(by show(0:Int)<_;decide),l,_,_,_,rfl,rfl,SqL.of ae,y3,?_⟩;exact⟨_,rfl,s4.trans (ak.upd hl)⟩
  ·exact⟨_,rfl,s4⟩
 rintro σ' H5 ⟨v,rfl,s5⟩;exact⟨_,rfl,_,rfl,_,_,rfl,rfl,⟨by omega,by omega,by decide⟩,_,_,rfl,rfl,tR _,fin _ _ s5⟩
def kP(K:Frag):Sp:=fun vs H Q _=>∃(w h c k:Nat),vs=[.int w,.int h,.int c,.int k]/\(0<w/\w<=8/\h<=8)/\c<2^(w*h)/\c.testBit k=true/\∀p H',cT w h c k p->ak H H'->Q (.int (p:Nat)) H'
variable(g7:Df P w K mg base 2 "_law_piece" ["_law_wide","_law_high","_law_ground","_law_cell"] (kP K))
theorem dQ:aB ["_law_wide","_law_high","_law_ground","_law_cell","_law_found","_law_todo","_law_here","_law_near"] ["_law_wide","_law_high","_law_ground","_law_cell"] (ao (top 37)):=by trivial
include B fZ aX in
theorem rW(T:Tx K mg "_law_piece" (top 37) ["_law_wide","_law_high","_law_ground","_law_cell"]):Df P w K mg base 2 "_law_piece" ["_law_wide","_law_high","_law_ground","_law_cell"] (kP K):=by
 refine T.df dQ (by rintro _ _ _ _ ⟨w,h,c,k,rfl,⟨hw,hw8,hh8⟩,hc,hk,q⟩;rfl) ?_;rintro f _ A _ s H _ Q E hr ⟨w,h,c,k,rfl,⟨hw,hw8,hh8⟩,hc,hk,q⟩;have hu:=hr.units;refine aN ?_;intro kX;refine ah 3 (aj (aE (pv 4))) ?_;intro kR3 pR3;refine bQ 2 1 (aj (cu FZ rfl (cX (aA fZ hr (aa (pv 0) (aa (pv 1) (aa (pv 6) ag))))) (aK (i:=7) dQ.nd rfl (by trivial)) (aj (aV ((yX (eY (aA aX hr (aa (pv 2) (aa (pv 7) ag)))) (wd (rF (eY (aA aX hr (aa (pv 4) (aa (pv 7) ag))))))).pt) (ai (aw (i:=4) dQ.nd rfl (by trivial) (aq bg (pv 4) (aq gy af (pv 7)))) (aj (dA (jW Ga GA Gz dY (pv 5) (aa (pv 7) ag))))) aI)))) ?_;intro kS2x1 pS2x1;refine bQ 2 0 (ai (aw (i:=6) dQ.nd rfl (by trivial) (u6 Ga PySem.F.slot_list_pop PySem.F.type_list_pop CS (pv 5))) pS2x1) ?_;intro kS2x0 pS2x0;refine ah 2 (ai (tQ FZ (aG (ze hu) (pv 5) (dy ag) (aL _)) pS2x0) pR3) ?_;intro kR2 pR2;refine ah 1 (ai (aw (i:=5) dQ.nd rfl (by trivial) (dy (aa (pv 3) ag))) pR2) ?_;intro kR1 pR1;refine⟨_,(ai (aw (i:=4) dQ.nd rfl (by trivial) (aq gy af (pv 3))) pR1),?_⟩;have hwh:w*h<=64:=Nat.mul_le_mul hw8 hh8;have p64:2^(w*h)<=2^64:=Gf (by decide) hwh;have hc64:c<2^64:=FE hc p64;have hu:=hr.units;have hkn:=fS hc hk;have e0:(1:Int)*2^((k:Int)).toNat=((gx 0 [k]:Nat):Int):=by rw[jf];show((2^k:Nat):Int)=((0||| 2^k:Nat):Int);rw[Nat.zero_or]
 refine⟨_,rfl,_,_,rfl,rfl,⟨by lia,by lia,by decide⟩,?_⟩;refine⟨_,rfl,aF rfl,fun l hl=>?_⟩;have s0:=ak.upd (o:=.lst (NV [k])) hl;refine⟨fun m σ H2=>∃(G T:List Nat)(o6 o7:Option V),σ=[some (.int w),some (.int h),some (.int c),some (.int k),some (.int (gx 0 G:Nat)),some (.ref l),o6,o7]/\m=2*(64-G.length)+T.length/\m<=128/\SX l (upd H l (.lst (NV [k]))) H2/\H2 l=some (.lst (NV T))/\pO w h c k G T,⟨127,[k],[k],none,none,(by rw[<-e0];rfl),rfl,by decide,SX.refl _ _,ae,pO.start hk⟩,?_⟩;rintro m σ H2 ⟨G,T,o6,o7,rfl,rfl,hm,s2,hl2,D⟩;have hG:=D.len hc64;refine⟨_,rfl,aF rfl,fun e he=>?_⟩;have s3:=ak.upd (o:=.lst []) he;have hl3:=s3 _ _ hl2;refine⟨_,_,IsD.lst (SqL.of hl3) (mR T),IsD.lst (SqL.of ae) (mR []),ux _,rfl,by decide,_,rfl,?_⟩;generalize hH3:(upd H2 e (.lst []))=H3 at s3 hl3 ⊢;rcases List.eq_nil_or_concat T with rfl|⟨T,x,rfl⟩
 ·refine fM ?_;exact⟨_,rfl,q _ H3 D.done ((SX.same hl s0 s2).trans s3)⟩
 ·have ef:PyData.eqv (.list ((T++[x]).map fun k:Nat=>PyData.int (k:Int))) (.list (([]:List Nat).map fun k:Nat=>PyData.int (k:Int)))=false:=by
   cases T with
   |nil=>rfl
   |cons y t=>rfl
  rw[show T.concat x=T++[x] by simp]at*;rw[ef];refine ip ⟨_,fun _ _ z=>z,?_⟩;rw[Fz,GC]at hm;have hxc:=(D.rc x (D.sb x (by simp))).in;have hxn:=fS hc hxc;refine⟨_,rfl,.inl ⟨rfl,_,SqL.of hl3⟩,l,_,.int (x:Int),rfl,rfl,hl3,?_,?_⟩
  ·rw[gJ,Fz];simp
  rw[show(NV (T++[x])).dropLast=NV T by rw[gJ];exact List.dropLast_concat];refine⟨_,rfl,_,rfl,_,rfl,w,h,x,rfl,⟨by omega,by omega⟩,fun l2 hn2=>⟨l2,rfl,⟨_,SqL.of ae⟩,?_⟩⟩;rw[zj w h x];have hl4:(upd H3 l (.lst (NV T))) l=some (.lst (NV T)):=ae;have n2l:l2≠l:=fun z=>by rw[z,ae]at hn2;cases hn2
  refine d9 (K:=K) (a:=l2) (xs:=((d6 w h x).map fun j:Nat=>(j:Int)).map V.int)
   (fun j σ H4=>∃(M:List Nat)(o7:Option V),σ=[some (.int w),some (.int h),some (.int c),some (.int k),some (.int (gx 0 (G++M):Nat)),some (.ref l),some (.int x),o7]/\SX l (upd (upd H3 l (.lst (NV T))) l2 (.lst (((d6 w h x).map fun j:Nat=>(j:Int)).map V.int))) H4/\H4 l=some (.lst (NV (T++M)))/\M.length<=j/\ql w h c k x (G++M) (T++M) ((d6 w h x).take j))
   ⟨[],o7,(by rw[F3];rfl),SX.refl _ _,(by rw[au (GR n2l),F3];exact hl4),Fv _,by rw[F3,F3];exact D.mid⟩
   (fun j σ H4 _ ⟨_,_,_,s4,_⟩=>SqL.of (s4 _ _ n2l ae)) ?_ ?_
  ·rintro j y σ H4 hj ⟨M,o7',rfl,s4,hl5,hMl,DM⟩;refine dB ?_;intro kD1;obtain⟨z,hz,rfl⟩:=zE hj;have hzm:z∈d6 w h x:=Fs hz;have hzn:=Bi hw hxn hzm;have hjl:j<(d6 w h x).length:=(FD.mp hz).1;have h4:=zi w h x;have et:(d6 w h x).take (j+1)=(d6 w h x).take j++[z]:=(by rw[FJ,hz];rfl);refine⟨_,rfl,_,rfl,c,z,rfl,by lia,_,rfl,?_⟩;refine bw (fun hcz=>?_) (fun hcz=>?_)
   ·refine⟨_,rfl,_,rfl,_,z,rfl,by omega,_,rfl,?_⟩;cases hf:(gx 0 (G++M)).testBit z with
    |true=>refine fM ⟨M,_,rfl,s4,hl5,by lia,?_⟩;rw[et];exact DM.skip fun _=>mB.mp hf
    |false=>
     have hnG:¬z∈G++M:=fun q'=>by rw[mB.mpr q']at hf;cases hf
     refine ip ?_;refine⟨_,rfl,_,rfl,_,_,rfl,rfl,⟨by lia,by lia,by decide⟩,_,_,rfl,rfl,?_⟩;have ea:((gx 0 (G++M):Nat):Int)+1*2^((z:Int)).toNat=((gx 0 (G++(M++[z])):Nat):Int):=by
      rw[jf,<-List.append_assoc];have e3:gx 0 (G++M++[z])=gx 0 (G++M)||| 2^z:=by unfold gx;rw[List.foldl_append];rfl
      rw[e3,CH (and_zero fun j hj=>by
       rw[wm,decide_eq_false_iff_not];intro e4;subst e4;rw[hf]at hj
       cases hj)]
      lia
     refine⟨_,rfl,.inl ⟨rfl,_,SqL.of hl5⟩,_,rfl,l,_,_,rfl,rfl,hl5,?_,?_⟩
     ·refine aD ?_;rw[Fm,Fz]
      lia
     refine⟨M++[z],some (.int z),?_,s4.trans SX.set,?_,?_,?_⟩
     ·simp only[ea];rfl
     ·rw[ae,<-List.append_assoc,gJ (T++M)];rfl
     ·rw[Fz,GC]
      lia
     ·rw[et,<-List.append_assoc,<-List.append_assoc];exact DM.push hcz hzm hnG
   ·refine⟨M,_,rfl,s4,hl5,by omega,?_⟩;rw[et];exact DM.skip fun q'=>absurd q' hcz
  ·rintro σ H4 ⟨M,o7',rfl,s4,hl5,hMl,DM⟩;rw[Fm,Fm,FU]at DM;have DI:=DM.done;have hG2:=DI.len hc64;rw[Fz]at hG2;refine⟨_,?_,G++M,T++M,some (.int x),o7',rfl,rfl,?_,?_,hl5,DI⟩
   ·rw[Fz,Fz,Fz,GC]
    lia
   ·rw[Fz,Fz]
    lia
   ·exact s2.trans ((SX.of s3).trans (SX.set.trans ((SX.of (ak.upd hn2)).trans s4)))
def gj(K:Frag):Sp:=fun vs H Q _=>∃(z w:Int),vs=[.int z,.int w]/\∀l S H',ak H H'->ShT K H' l S->GS ((List.range 6).map (ik w)) S->Q (.ref l) H'
variable(dF:Df P w K mg base 2 "_law_make_shares" ["_law_cell","_law_way"] (gj K))
theorem bK:aB ["_law_cell","_law_way","_law_many","_law_first","_law_weights","_law_scale","_law_total"] ["_law_cell","_law_way"] (ao (top 42)):=by trivial
include B aC cI jH uI in
theorem ka(T:Tx K mg "_law_make_shares" (top 42) ["_law_cell","_law_way"]):Df P w K mg base 2 "_law_make_shares" ["_law_cell","_law_way"] (gj K):=by
 refine T.df bK (by rintro _ _ _ _ ⟨z,w,rfl,q⟩;rfl) ?_;rintro f _ A _ s H _ Q E hr ⟨z,w,rfl,q⟩
 refine⟨_,(@ai _ _ _ _ _ (@aw _ _ 2 _ _ _ _ bK.nd rfl (by trivial) (aq bg af (aA aC hr (@aa _ _ _ _ _ (pv 0) (@aa _ _ _ _ _ af (@aa _ _ _ _ _ af ag rfl) rfl) rfl))) rfl (by trivial)) (@ai _ _ _ _ _ (@aw _ _ 3 _ _ _ _ bK.nd rfl (by trivial) (aA aC hr (@aa _ _ _ _ _ (pv 0) (@aa _ _ _ _ _ af (@aa _ _ _ _ _ af ag rfl) rfl) rfl)) rfl (by trivial)) (@ai _ _ _ _ _ (@aw _ _ 4 _ _ _ _ bK.nd rfl (by trivial) (bI ["_law_k"] [("_law_cell",0)] (fb _ ["_law_cell"]) rfl (by rfl) rfl (by trivial) (by trivial) (aP (by rfl)) (b8 (by rfl)) (mC ⟨rfl,rfl⟩ mN) (mC rfl mN) (bu (by decide)) (bL (by rfl) B.range (@aa _ _ _ _ _ (pv 2) ag rfl)) (fun _ _ _ _=>aK (i:=0) (show(["_law_k","_law_cell"]:List Str).Nodup by trivial) rfl (Or.inl rfl) (Or.inr rfl)) (fun _ _ _ _=>bz) (fun _ _ _ _=>(aq bg af (aA aC hr (@aa _ _ _ _ _ (pv 1) (@aa _ _ _ _ _ (aq bg af (pv 0)) (@aa _ _ _ _ _ af ag rfl) rfl) rfl))))) rfl (by trivial))
  (@ai _ _ _ _ _ (@aw _ _ 5 _ _ _ _ bK.nd rfl (by trivial) (@aJ _ _ _ _ _ _ _ bV (@dy _ _ _ _ (@aa _ _ _ _ _ af (@aa _ _ _ _ _ af (@aa _ _ _ _ _ af (@aa _ _ _ _ _ (aq j7 af af) (@aa _ _ _ _ _ (aq j7 af af) (@aa _ _ _ _ _ (aq dM (aq j7 af af) af) ag rfl) rfl) rfl) rfl) rfl) rfl)) (aA aC hr (@aa _ _ _ _ _ (pv 0) (@aa _ _ _ _ _ af (@aa _ _ _ _ _ af ag rfl) rfl) rfl)) (fun _ _=>rfl)) rfl (by trivial)) (bF (aV (aG nG (pv 5) af (aL _)) (@aj _ _ _ (u4 (aq dM (pv 5) (aY (qO rfl) (by rfl) uI boot_sum (@aa _ _ _ _ _ (d8 AQ (pv 4) (dU af) iF) ag rfl))) (y8 (pv 4) af set_list))) aI) (@ai _ _ _ _ _ (@aw _ _ 6 _ _ _ _ bK.nd rfl (by trivial) (aY (qO rfl) (by rfl) uI boot_sum (@aa _ _ _ _ _ (pv 4) ag rfl)) rfl (by trivial)) (@aj _ _ _ (@aE _ _ _ _ (bU b9 (by rfl) B.tuple boot_tuple (@aa _ _ _ _ _ (aY LT.vL (by rfl) B.sorted (by trivial) (@aa _ _ _ _ _ (bI ["_law_k"] [("_law_first",3),("_law_way",1),("_law_weights",4),("_law_total",6)] (fb _ ["_law_weights","_law_way","_law_total","_law_first"]) rfl (by rfl) rfl (by trivial) (by trivial) (aP (by rfl)) (b8 (by rfl)) (mC ⟨rfl,rfl⟩ (mC ⟨rfl,rfl⟩ (mC ⟨rfl,rfl⟩ (mC ⟨rfl,rfl⟩ mN)))) (mC rfl (mC rfl (mC rfl (mC rfl mN)))) (bu (by decide)) (bL (by rfl) B.range (@aa _ _ _ _ _ (pv 2) ag rfl)) (fun _ _ _ _=>aK (i:=0) (show(["_law_k","_law_first","_law_way","_law_weights","_law_total"]:List Str).Nodup by trivial) rfl (Or.inl rfl) (Or.inr rfl)) (fun _ _ _ _=>bz) (fun _ _ _ _=>(@aR _ _ _ _ _ (@aa _ _ _ _ _ (aA cI hr (@aa _ _ _ _ _ (aq bh (aq bg (pv 1) (pv 0)) af) (@aa _ _ _ _ _ (pv 2) ag rfl) rfl)) (@aa _ _ _ _ _ (aA jH hr (@aa _ _ _ _ _ (@aJ _ _ _ _ _ _ _ (lN (K:=K) rfl) (pv 3) (pv 0) (fun _ _=>rfl)) (@aa _ _ _ _ _ (pv 4) ag rfl) rfl)) ag rfl) rfl)))) ag rfl)) ag rfl)))))))))),?_⟩
 refine⟨_,rfl,z,31,4,rfl,by decide,by decide,fun j1 hj1=>?_⟩;refine⟨_,_,rfl,rfl,?_⟩;refine⟨_,rfl,z,32,6,rfl,by decide,by decide,fun j2 hj2=>?_⟩;refine⟨_,rfl,1+(j1:Int),rfl,by lia,by lia,fun A1 hA1=>?_⟩;rw[show(1+(j1:Int)).toNat=j1+1 by lia];have sA:∀o:HO,ak H (upd H A1 o):=fun o=>ak.upd hA1;refine mh (n:=j1+1) (lo:=0) (fun i acc H2=>∃ws:List Int,H2=upd H A1 (.lst acc)/\acc=ws.map V.int/\ws.length=i/\∀x∈ws,1<=x/\x<=9) ⟨[],rfl,rfl,rfl,fun _ z=>nomatch z⟩ ?_ ?_
 ·rintro i acc H2 hi ⟨ws,rfl,rfl,lw,hw⟩;rw[show(0:Int)+(i:Int)=((i:Nat):Int) by lia];refine dD ?_;intro kq1 kr1;refine⟨_,rfl,_,rfl,_,_,rfl,rfl,z,33+i,9,rfl,by decide,by lia,fun j hj=>?_⟩;refine⟨_,_,rfl,rfl,ae,?_,ws++[1+(j:Int)],?_,?_,?_,fun x hx=>?_⟩
  ·rw[Fm];exact aD (by lia)
  ·rw[bc]
  ·rw[FN];rfl
  ·rw[Fz,lw];rfl
  ·rcases FC.mp hx with y|y
   ·exact hw x y
   ·rw[Fq.mp y];lia
 rintro acc H2 ⟨ws,rfl,rfl,lw,hw⟩;refine⟨_,_,rfl,rfl,⟨by decide,by decide,by decide⟩,_,_,rfl,rfl,⟨by decide,by decide,by decide⟩,_,_,rfl,rfl,⟨by decide,by decide,by decide⟩,_,_,rfl,rfl,aF rfl,fun l2 hl2=>?_⟩;refine⟨_,rfl,z,40,6,rfl,by decide,by decide,fun j3 hj3=>?_⟩;obtain⟨sc,hsc,scv⟩:∃sc:Int,atI [V.int 0,V.int 0,V.int 0,V.int ((10:Int)^(9:Int).toNat),V.int ((10:Int)^(60:Int).toNat),V.int ((10:Int)^(60:Int).toNat-33)] ((j3:Nat):Int)=some (.int sc)/\(sc=0\/(100<=sc/\sc<=FIN)):=by
  have hF:FIN=10^60:=by decide+kernel
  have h9:(10:Int)^(9:Int).toNat=1000000000:=by decide+kernel
  have h60:(10:Int)^(60:Int).toNat=FIN:=by decide+kernel
  have hF2:1000000000<=FIN:=by decide+kernel
  rw[h9,h60];rcases (show j3=0\/j3=1\/j3=2\/j3=3\/j3=4\/j3=5 by lia)with e|e|e|e|e|e<;>subst e
  ·exact⟨0,rfl,.inl rfl⟩
  ·exact⟨0,rfl,.inl rfl⟩
  ·exact⟨0,rfl,.inl rfl⟩
  ·exact⟨1000000000,rfl,.inr ⟨by decide,hF2⟩⟩
  ·exact⟨FIN,rfl,.inr ⟨by lia,Int.le_refl _⟩⟩
  ·exact⟨FIN-33,rfl,.inr ⟨by lia,by lia⟩⟩
 refine⟨l2,_,_,_,rfl,rfl,SqL.of ae,hsc,?_⟩;have n2:A1≠l2:=fun e=>by rw[<-e,ae]at hl2;cases hl2
 have hA2:(upd (upd H A1 (.lst (ws.map V.int))) l2 (.lst [V.int 0,V.int 0,V.int 0,V.int ((10:Int)^(9:Int).toNat),V.int ((10:Int)^(60:Int).toNat),V.int ((10:Int)^(60:Int).toNat-33)])) A1=some (.lst (ws.map V.int)):=by rw[au n2];exact ae
 have s2:=(sA (.lst (ws.map V.int))).trans (ak.upd (o:=.lst [V.int 0,V.int 0,V.int 0,V.int ((10:Int)^(9:Int).toNat),V.int ((10:Int)^(60:Int).toNat),V.int ((10:Int)^(60:Int).toNat-33)]) hl2);clear hsc;generalize (upd (upd H A1 (.lst (ws.map V.int))) l2 (.lst [V.int 0,V.int 0,V.int 0,V.int ((10:Int)^(9:Int).toNat),V.int ((10:Int)^(60:Int).toNat),V.int ((10:Int)^(60:Int).toNat-33)]))=H3 at hA2 s2 ⊢;refine⟨fun σ' H'=>∃ws':List Int,σ'=[some (.int z),some (.int w),some (.int (1+(j1:Int))),some (.int (j2:Nat)),some (.ref A1),some (.int sc),none]/\ak H H'/\H' A1=some (.lst (ws'.map V.int))/\ws'.length=j1+1/\(∀x∈ws',0<x)/\ws'.sum<=FIN,?_,?_⟩
 ·refine fU ?_;intro kD2;refine⟨_,rfl,_,_,rfl,rfl,_,rfl,?_⟩;have s9:=oj hw;have hF3:100<=FIN:=by decide+kernel
  refine bw (fun h4=>?_) (fun h4=>?_)
  ·obtain⟨x0,r0,rfl⟩:∃x0 r0,ws=x0::r0:=by
    cases ws with
    |nil=>cases lw
    |cons a b=>exact⟨a,b,rfl⟩
   have h4':0<sc:=F7 h4;have r9:=oj fun x hx=>hw x (Ft _ hx);rw[FV]at lw;have e5:gO ((x0::r0).map V.int) (some 1) none=r0.map V.int:=BD;refine⟨_,rfl,_,rfl,_,rfl,A1,_,rfl,SqL.of hA2,fun p5 hp5=>?_⟩;rw[e5];have n5:A1≠p5:=fun e=>by rw[<-e,hA2]at hp5;cases hp5
   have hA5:(upd H3 p5 (.lst (r0.map V.int))) A1=some (.lst ((x0::r0).map V.int)):=(by rw[au n5];exact hA2);refine⟨p5,r0,rfl,SqL.of ae,_,_,rfl,rfl,_,rfl,A1,_,_,0,rfl,rfl,hA5,wJ (j:=0) (by simp),?_⟩;refine⟨(sc-r0.sum)::r0,rfl,?_,?_,by rw[FV];exact lw,fun x hx=>?_,?_⟩
   ·exact ak.set hA1 (s2.trans (ak.upd hp5))
   ·rw[ae];rfl
   ·rcases FL.mp hx with e|e
    ·rw[e];lia
    ·have:=hw x (Ft _ e);lia
   ·rw[List.sum_cons];lia
  ·exact⟨ws,rfl,s2,hA2,lw,fun x hx=>by have:=hw x hx;lia,by lia⟩
 rintro σ' H4 ⟨ws2,rfl,s4,hA4,lw2,pos2,fin2⟩;refine⟨_,rfl,A1,ws2,rfl,SqL.of hA4,?_⟩;have tpos:0<ws2.sum:=tJ pos2 (fun e=>by rw[e]at lw2;cases lw2);have bdT:Bd 8000 ws2.sum:=(EA (by lia) (by have:FIN<=10000000000000000000000000000000000000000000000000000000000000:=(by decide+kernel);lia)).mono (by decide);refine⟨_,rfl,1+(j1:Int),rfl,by omega,by omega,fun A5 hA5=>?_⟩;rw[show(1+(j1:Int)).toNat=j1+1 by lia];refine mh (n:=j1+1) (lo:=0) (fun i acc H5=>ak H4 H5/\H5 A5=some (.lst acc)/\Paired (ShE K H5) acc ((wsN w j2 ws2 i).map fun p=>(p.1,frT p.2 ws2.sum,frB p.2 ws2.sum))) ⟨ak.upd hA5,ae,.nil⟩ ?_ ?_
 ·rintro i acc H5 hi ⟨s5,h5,pr5⟩;rw[show(0:Int)+(i:Int)=((i:Nat):Int) by omega];refine dD ?_;intro kq3 kr3;have il:i<ws2.length:=by lia
  have hat:atI (ws2.map V.int) ((i:Nat):Int)=some (.int (ws2.getD i 0)):=az (by rw[FO,Fy il,List.getD_eq_getElem?_getD,Fy il];rfl);have wp:0<ws2.getD i 0:=pos2 _ (by rw[List.getD_eq_getElem?_getD,Fy il];exact List.getElem_mem il);refine⟨_,rfl,_,rfl,_,_,rfl,rfl,_,_,rfl,rfl,(by show(0:Int)<_;decide),_,rfl,(j2+i) % 6,w,rfl,Nat.mod_lt _ (by decide),?_⟩;refine⟨_,rfl,_,rfl,A1,_,_,_,rfl,rfl,SqL.of (s5 _ _ hA4),hat,_,rfl,_,_,rfl,tpos,wp,bdT,fun l6 hl6=>?_⟩;refine⟨aF rfl,fun l7 hl7=>?_⟩;have s7:=(ak.upd (o:=.tup [.int (frT (ws2.getD i 0) ws2.sum),.int (frB (ws2.getD i 0) ws2.sum)]) hl6).trans (ak.upd (o:=.tup [.str (ik w ((j2+i) % 6)),.ref l6]) hl7);have h7:=s7 _ _ h5;have tk7:=TK.lst (o:=.lst (acc++[.ref l7])) h7;have lacc:acc.length<sizeLine:=by rw[Fx pr5,Fm,wsN,Fm,GJ];exact aD (by lia)
  refine⟨h7,lacc,?_,ae,?_⟩
  ·exact fun b o e=>by rw[au (fun z=>by rw[z,hA5]at e;cases e)];exact s7 _ _ (s5 _ _ e)
  ·rw[wsN,List.range_succ,FN,FN];have n67:l6≠l7:=fun e=>by rw[<-e,ae]at hl7;cases hl7
   exact Paired.app (Paired.imp (fun _ _ z=>(z.tk s7.tk).tk tk7) pr5) (.cons (ShE.tk tk7 ⟨l7,l6,rfl,SqT.of ae,SqT.of (by rw[au n67];exact ae)⟩) .nil)
 ·rintro acc H5 ⟨s5,h5,pr5⟩;obtain⟨zs,rfl,en,hz,hp⟩:=uT pr5;have e0:((wsN w j2 ws2 (j1+1)).map fun p=>(p.1,frT p.2 ws2.sum,frB p.2 ws2.sum))=wSh (wsN w j2 ws2 ws2.length):=by
   unfold wSh;rw[vW,lw2]
  rw[e0]at en hp;have enn:zs.map (·.2)=(wsN w j2 ws2 ws2.length).map (·.1):=by rw[en,GB];rfl
  have lz:zs.length=j1+1:=by have:=congrArg List.length enn;rw[Fm,Fm,wsN,Fm,GJ,lw2]at this;exact this
  refine⟨A5,zs,rfl,SqL.of h5,hz,by rw[enn];exact yz (by lia),by lia,fun l8 ys hl8 py so=>?_⟩;obtain⟨S,pm,pS,eS⟩:=hp ys py;refine⟨l8,_,rfl,.inl ⟨SqL.of ae,fun l9 hl9=>?_⟩⟩;have s8:=(ak.upd (o:=.lst (ys.map fun z=>V.ref z.1)) hl8).trans (ak.upd (o:=.tup (ys.map fun z=>V.ref z.1)) hl9);refine q l9 S _ (s4.trans (s5.trans s8)) ⟨_,SqT.of ae,Paired.imp (fun _ _ z=>z.tk s8.tk) pS⟩ ?_;have tw:hX (wsN w j2 ws2 ws2.length)=ws2.sum:=vW;exact Er (yz (by omega)) (fun p hp=>(vX pos2 p hp).1) (by rw[tw];exact tpos) (by rw[tw];exact fin2) pm (by rw[eS];exact so) (fun p hp=>(vX pos2 p hp).2)
def nq(K:Frag):Sp:=fun vs H Q _=>∃(z w:Int)(c:Nat),vs=[.int z,.int c,.int w]/\c<=1000/\∀(n:Int) H',ak H H'->0<=n->Q (.int n) H'
variable(eR:Df P w K mg base 2 "_law_date" ["_law_cell","_law_salt","_law_way"] (nq K))
theorem tN:aB ["_law_cell","_law_salt","_law_way"] ["_law_cell","_law_salt","_law_way"] (ao (top 44)):=by trivial
include B aC in
theorem ug(T:Tx K mg "_law_date" (top 44) ["_law_cell","_law_salt","_law_way"]):Df P w K mg base 2 "_law_date" ["_law_cell","_law_salt","_law_way"] (nq K):=by
 refine T.df tN (by rintro _ _ _ _ ⟨z,w,c,rfl,hc,q⟩;rfl) ?_;rintro f _ A _ s H _ Q E hr ⟨z,w,c,rfl,hc,q⟩;refine⟨_,(aj (aE (aq bZ (aA aC hr (aa (pv 0) (aa (pv 1) (aa af ag)))) (aJ bV (dy (aa af (aa af ag))) (aq bh (aq b6 (pv 2) af) af) (fun _ _=>rfl))))),?_⟩;refine⟨_,rfl,_,rfl,z,c,14,rfl,by decide,hc,fun k hk=>?_⟩;refine⟨aF rfl,fun l hl=>?_⟩;have s1:=ak.upd (o:=.lst [V.int 1,V.int 70000000]) hl;have b0:=Gq (w / 20) (show(2:Int)≠0 by decide);have b1:=Gr (w / 20) (show(0:Int)<2 by decide);obtain⟨v,hv,v0⟩:∃v:Int,atI [V.int 1,V.int 70000000] (w / 20 % 2)=some (.int v)/\1<=v:=by
  rcases (show w / 20 % 2=0\/w / 20 % 2=1 by lia)with z|z
  ·rw[z];exact⟨1,rfl,by decide⟩
  ·rw[z];exact⟨70000000,rfl,by decide⟩
 refine⟨_,rfl,_,_,rfl,rfl,⟨by decide,by decide⟩,_,_,rfl,rfl,(by show(0:Int)<_;decide),l,_,_,_,rfl,rfl,SqL.of ae,hv,_,_,rfl,rfl,.inl ⟨by lia,by lia⟩,?_⟩;exact q _ _ s1 (Int.mul_nonneg (by omega) (by lia))
def gq(K:Frag):Sp:=fun vs H Q _=>∃(c:Int)(b:Addr)(vs':List V)(rs:List (List Key)),vs=[.int c,.ref b]/\SqL K H b vs'/\Paired (bS K H) vs' rs/\rs.length=13/\∀l C H',ak H H'->bJ K H' l C->C.length<=12->(∀r∈C,r∈rs)->((rs.map av).Nodup->(C.map av).Nodup)->Q (.ref l) H'
variable(cG:Df P w K mg base 2 "_law_make_column" ["_law_cell","_law_pool"] (gq K))
theorem cW:aB ["_law_cell","_law_pool","_law_many","_law_start","_law_step"] ["_law_cell","_law_pool"] (ao (top 46)):=by trivial
include B aC in
theorem kg(T:Tx K mg "_law_make_column" (top 46) ["_law_cell","_law_pool"]):Df P w K mg base 2 "_law_make_column" ["_law_cell","_law_pool"] (gq K):=by
 refine T.df cW (by rintro _ _ _ _ ⟨c,b,ws,rs,rfl,hb,pr,hl13,q⟩;rfl) ?_;rintro f _ A _ s H _ Q E hr ⟨c,b,ws,rs,rfl,hb,pr,hl13,q⟩;refine aN ?_;intro kX;refine ah 3 (aj (aE (bU b9 (by rfl) B.tuple boot_tuple (aa (bI ["_law_k"] [("_law_pool",1),("_law_start",3),("_law_step",4)] (fb _ ["_law_step","_law_start","_law_pool"]) rfl (by rfl) rfl (by trivial) (by trivial) (aP (by rfl)) (b8 (by rfl)) (mC ⟨rfl,rfl⟩ (mC ⟨rfl,rfl⟩ (mC ⟨rfl,rfl⟩ mN))) (mC rfl (mC rfl (mC rfl mN))) (bu (by decide)) (bL (by rfl) B.range (aa (pv 2) ag)) (fun _ _ _ _=>aK (i:=0) (show(["_law_k","_law_pool","_law_start","_law_step"]:List Str).Nodup by trivial) rfl (Or.inl rfl) (Or.inr rfl)) (fun _ _ _ _=>bz) (fun _ _ _ _=>(aJ (lN (K:=K) rfl) (pv 1) (aq bh (aq bg (pv 2) (aq bZ (pv 0) (pv 3))) af) (fun _ _=>rfl)))) ag)))) ?_;intro kR3 pR3;refine ah 2 (ai (aw (i:=4) cW.nd rfl (by trivial) (aq bg af (aA aC hr (aa (pv 0) (aa af (aa af ag)))))) pR3) ?_;intro kR2 pR2;refine ah 1 (ai (aw (i:=3) cW.nd rfl (by trivial) (aA aC hr (aa (pv 0) (aa af (aa af ag))))) pR2) ?_;intro kR1 pR1;refine⟨_,(ai (aw (i:=2) cW.nd rfl (by trivial) (aJ bV (dy (aa (aA aC hr (aa (pv 0) (aa af (aa af ag)))) (aa af (aa af ag)))) (aY (yi rfl) (by rfl) B.max boot_max (aa af (aa (aq dM (aA aC hr (aa (pv 0) (aa af (aa af ag)))) af) ag))) (fun _ _=>rfl))) pR1),?_⟩;have lw:ws.length=rs.length:=Fx pr;refine⟨_,rfl,c,91,5,rfl,by decide,by decide,fun j1 hj1=>?_⟩;refine⟨aF rfl,fun l1 hl1=>?_⟩;have s1:=ak.upd (o:=.lst [V.int (j1:Nat),V.int 12,V.int 11]) hl1;refine⟨_,rfl,c,92,8,rfl,by decide,by decide,fun j2 hj2=>?_⟩;refine⟨_,_,rfl,rfl,_,_,rfl,?_⟩;obtain⟨n,hn,n12⟩:∃n:Nat,atI [V.int (j1:Nat),V.int 12,V.int 11] (if((j2:Nat):Int)-5>0 then((j2:Nat):Int)-5 else 0)=some (.int n)/\n<=12:=by
  rcases (show j2<=5\/j2=6\/j2=7 by lia)with z|z|z
  ·rw[FA (by lia)];exact⟨j1,rfl,by lia⟩
  ·subst z;exact⟨12,rfl,by decide⟩
  ·subst z;exact⟨11,rfl,by decide⟩
 refine⟨l1,_,_,_,rfl,rfl,SqL.of ae,hn,?_⟩;have hb1:=s1.seq hb;have pr1:=Paired.imp (fun _ _=>bS.tk s1.tk) pr;generalize (upd H l1 (.lst [V.int (j1:Nat),V.int 12,V.int 11]))=H1 at s1 hb1 pr1 ⊢;refine⟨_,rfl,c,93,13,rfl,by decide,by decide,fun j3 hj3=>?_⟩;refine⟨_,rfl,c,94,12,rfl,by decide,by decide,fun j4 hj4=>?_⟩;refine⟨_,_,rfl,rfl,?_⟩;refine⟨_,rfl,n,rfl,by lia,by lia,fun A1 hA1=>?_⟩;rw[show((n:Int)).toNat=n by lia];have sA:∀o:HO,ak H1 (upd H1 A1 o):=fun o=>ak.upd hA1;refine mh (n:=n) (lo:=0) (fun i acc H2=>∃C:List (List Key),H2=upd H1 A1 (.lst acc)/\Paired (bS K H1) acc C/\C.length=i/\(∀r∈C,r∈rs)/\∀t,t<i->C[t]?=rs[(j3+t*(1+j4)) % 13]?) ⟨[],rfl,.nil,rfl,(fun _ z=>nomatch z),fun _ z=>absurd z (Nat.not_lt_zero _)⟩ ?_ ?_
 ·rintro i acc H2 hi ⟨C,rfl,pC,lC,sub,ix⟩;refine dD ?_;intro kq1 kr1;have m0:=Gq (((j3:Nat):Int)+(0+(i:Int))*(1+((j4:Nat):Int))) (show(13:Int)≠0 by decide);have m1:=Gr (((j3:Nat):Int)+(0+(i:Int))*(1+((j4:Nat):Int))) (show(0:Int)<13 by decide);obtain⟨t,ht⟩:∃t:Nat,(((j3:Nat):Int)+(0+(i:Int))*(1+((j4:Nat):Int))) % 13=(t:Nat):=⟨_,(Int.toNat_of_nonneg m0).symm⟩;have tl:t<ws.length:=by lia
  obtain⟨r,hr,hbr⟩:=aM pr1 (i:=t) (x:=ws[t]'tl) (by simp);have hat:atI ws ((((j3:Nat):Int)+(0+(i:Int))*(1+((j4:Nat):Int))) % 13)=some (ws[t]'tl):=by rw[ht];exact az (by simp)
  refine⟨_,rfl,_,rfl,_,rfl,_,rfl,_,_,rfl,rfl,.inl ⟨by lia,by lia⟩,_,_,rfl,rfl,_,_,rfl,rfl,(by show(0:Int)<_;decide),b,_,_,_,rfl,rfl,(sA _).seq hb1,hat,ae,?_,?_⟩
  ·rw[Fx pC];exact aD (by lia)
  ·refine⟨C++[r],by rw[bc],Paired.app pC (.cons hbr .nil),by rw[Fz,lC];rfl,fun x hx=>?_,fun t' ht'=>?_⟩;rcases FC.mp hx with z|z
   ·exact sub x z
   ·rw[Fq.mp z];exact Fs hr
   rcases Nat.lt_or_ge t' i with y|y
   ·rw[List.getElem?_append_left (by lia)];exact ix t' y
   ·have e:t'=i:=(by lia);subst e;have et:(j3+t'*(1+j4)) % 13=t:=by
     rw[Int.zero_add]at ht
     exact_mod_cast ht
    rw[List.getElem?_append_right (by lia),lC,Nat.sub_self,et,hr];rfl
 ·rintro acc H2 ⟨C,rfl,pC,lC,sub,ix⟩;refine⟨A1,_,rfl,.inl ⟨SqL.of ae,fun l2 hl2=>?_⟩⟩;have s2:=(sA (.lst acc)).trans (ak.upd (o:=.tup acc) hl2);refine q l2 C _ (s1.trans s2) ⟨fun r hr k hk=>?_,acc,SqT.of ae,?_⟩ (by lia) sub (fun nd=>Du nd hl13 lC (by lia) ⟨by lia,by lia⟩ ix)
  ·obtain⟨v,_,hv⟩:∃v,v∈acc/\bS K H1 v r:=by
    have:∀{xs:List V}{D:List (List Key)},Paired (bS K H1) xs D->r∈D->∃v,v∈xs/\bS K H1 v r:=by
     intro xs D p
     induction p with
     |nil=>intro h;cases h
     |cons a _ ih=>
      intro h;rcases FL.mp h with e|e
      ·subst e;exact⟨_,Fw ..,a⟩
      ·obtain⟨v,h1,h2⟩:=ih e;exact⟨v,Ft _ h1,h2⟩
    exact this pC hr
   exact hv.1 k hk
  ·exact Paired.imp (fun _ _ z=>(z.tk s2.tk).2) pC
def iZ(K:Frag):Sp:=fun vs H Q _=>∃(l:Addr)(xs:List V)(gs:List Nat)(c:Nat),vs=[.ref l,.int c]/\(SqL K H l xs\/SqT K H l xs)/\Paired (HdE K H) xs gs/\c<=64/\Q (cS xs gs c) H
variable(bx:Df P w K mg base 2 "_law_plot_of" ["_law_plots","_law_cell"] (iZ K))
theorem jb:aB ["_law_plots","_law_cell","_law_plot"] ["_law_plots","_law_cell"] (ao (top 50)):=by trivial
include B aX in
theorem oQ(T:Tx K mg "_law_plot_of" (top 50) ["_law_plots","_law_cell"]):Df P w K mg base 2 "_law_plot_of" ["_law_plots","_law_cell"] (iZ K):=by
 refine T.df jb (by rintro _ _ _ _ ⟨l,xs,gs,c,rfl,hl,pr,hc,q⟩;rfl) ?_;rintro f _ A _ s H _ Q E hr ⟨l,xs,gs,c,rfl,hl,pr,hc,q⟩;refine aN ?_;intro kX;refine ah 1 (aj (aE cH)) ?_;intro kR1 pR1;refine⟨_,(ai (cu FZ rfl (y6 (pv 0)) (aK (i:=2) jb.nd rfl (by trivial)) (aj (aV (eY (aA aX hr (aa (aJ aO (pv 2) af (fun _ _=>rfl)) (aa (pv 1) ag)))) (aj (aE (pv 2))) aI))) pR1),?_⟩;rcases hl with hl|hl
 ·refine .inl ⟨_,rfl,l,rfl,⟨_,hl⟩,d9 (K:=K) (a:=l) (xs:=xs) (fun i σ H2=>∃o2:Option V,σ=[some (.ref l),some (.int c),o2]/\H2=H/\cS xs gs c=cS (xs.drop i) (gs.drop i) c) ⟨none,rfl,rfl,rfl⟩ (fun i σ H2 _ hPz=>hPz.elim fun _ hPz=>(fun e=>by rw[e];exact hl) (hPz.2.1)) ?_ ?_⟩
  ·rintro i y σ H2 hi ⟨o2,rfl,rfl,e⟩;refine dB ?_;intro kD1;obtain⟨g,hg,r,rest,rfl,h1⟩:=aM pr hi;rw[iI hi hg]at e;refine⟨_,rfl,r,_,_,_,rfl,rfl,h1,(az (j:=0) rfl),_,rfl,g,c,rfl,hc,_,rfl,?_⟩;refine bw (fun h2=>?_) (fun h2=>?_)
   ·rw[FH h2]at e;refine⟨_,rfl,?_⟩;rw[e]at q;exact q
   ·rw[FA h2]at e;exact⟨_,rfl,rfl,e⟩
  ·rintro σ H2 ⟨o2,rfl,rfl,e⟩;rw[List.drop_length]at e;have e2:cS xs gs c=.non:=(by rw[e];rfl);rw[e2]at q;exact q
 ·refine .inr ⟨_,rfl,l,rfl,⟨_,hl⟩,gW (K:=K) (a:=l) (xs:=xs) (fun i σ H2=>∃o2:Option V,σ=[some (.ref l),some (.int c),o2]/\H2=H/\cS xs gs c=cS (xs.drop i) (gs.drop i) c) ⟨none,rfl,rfl,rfl⟩ (fun i σ H2 _ hPz=>hPz.elim fun _ hPz=>(fun e=>by rw[e];exact hl) (hPz.2.1)) ?_ ?_⟩
  ·rintro i y σ H2 hi ⟨o2,rfl,rfl,e⟩;refine dB ?_;intro kD2;obtain⟨g,hg,r,rest,rfl,h1⟩:=aM pr hi;rw[iI hi hg]at e;refine⟨_,rfl,r,_,_,_,rfl,rfl,h1,(az (j:=0) rfl),_,rfl,g,c,rfl,hc,_,rfl,?_⟩;refine bw (fun h2=>?_) (fun h2=>?_)
   ·rw[FH h2]at e;refine⟨_,rfl,?_⟩;rw[e]at q;exact q
   ·rw[FA h2]at e;exact⟨_,rfl,rfl,e⟩
  ·rintro σ H2 ⟨o2,rfl,rfl,e⟩;rw[List.drop_length]at e;have e2:cS xs gs c=.non:=(by rw[e];rfl);rw[e2]at q;exact q
def qw(K:Frag):Sp:=fun vs H Q _=>∃(z:Int)(l:Addr)(xs:List V)(ps:List Plt)(m:Nat),vs=[.int z,.ref l,.int m]/\SqL K H l xs/\Paired (PlE K H) xs ps/\(∀p∈ps,(plD p).canLay0=true)/\(∀p∈ps,p.g≠0/\p.g<2^m)/\ps.length<=8/\(0<m/\m<=64)/\∀(c:Nat) H',c<m->ak H H'->Q (.int c) H'
variable(mf:Df P w K mg base 2 "_law_at" ["_law_cell","_law_plots","_law_many"] (qw K))
theorem mv:aB ["_law_cell","_law_plots","_law_many","_law_plot","_law_some_here"] ["_law_cell","_law_plots","_law_many"] (ao (top 51)):=by trivial
include B aC aX in
theorem xN(T:Tx K mg "_law_at" (top 51) ["_law_cell","_law_plots","_law_many"]):Df P w K mg base 2 "_law_at" ["_law_cell","_law_plots","_law_many"] (qw K):=by
 refine T.df mv (by rintro _ _ _ _ ⟨z,l,xs,ps,m,rfl,hl,pp,ly,hg,l8,⟨m0,m64⟩,q⟩;rfl) ?_;rintro f _ A _ s H _ Q E hr ⟨z,l,xs,ps,m,rfl,hl,pp,ly,hg,l8,⟨m0,m64⟩,q⟩;have hu:=hr.units;refine aN ?_;intro kX;refine ah 3 (aj (aE (aJ bV (pv 4) (aA aC hr (aa (pv 0) (aa af (aa (aY bO (by rfl) B.len G2 (aa (pv 4) ag)) ag)))) (fun _ _=>rfl)))) ?_;intro kR3 pR3;refine ah 2 (ai (jx (i:=4) mv.nd rfl (by trivial) ["_law_k"] [("_law_plot",3)] (fb _ ["_law_plot"]) rfl (by rfl) rfl (by trivial) (by trivial) (aP (by rfl)) (b8 (by rfl)) (mC ⟨rfl,rfl⟩ mN) (mC rfl mN) (bu (by decide)) (bL (by rfl) B.range (aa (pv 2) ag)) (fun _ _ _ _=>aK (i:=0) (show(["_law_k","_law_plot"]:List Str).Nodup by trivial) rfl (Or.inl rfl) (Or.inr rfl)) (fun _ _ _ _=>ji (eY (aA aX hr (aa (aJ (c7 (K:=K) rfl) (pv 1) af (fun _ _=>rfl)) (aa (pv 0) ag))))) (fun _ _ _ _=>(pv 0))) pR3) ?_;intro kR2 pR2;refine ah 1 (ai (aw (i:=3) mv.nd rfl (by trivial) (aJ bV (pv 1) (aA aC hr (aa (pv 0) (aa af (aa (aY bO (by rfl) B.len G2 (aa (pv 1) ag)) ag)))) (fun _ _=>rfl))) pR2) ?_;intro kR1 pR1;refine⟨_,(ai (aV ((nF (aG (rN hu) (pv 1) (dy ag) (aL _)) (jd (aG cN (aA aC hr (aa (pv 0) (aa af (aa af ag)))) af (aL _)))).pt) (aj (aE (aA aC hr (aa (pv 0) (aa af (aa (pv 2) ag)))))) aI) pR1),?_⟩;have lx:=Fx pp;refine⟨_,rfl,aF rfl,fun e he=>?_⟩;have s1:=ak.upd (o:=.lst []) he;have he1:(upd H e (.lst [])) e=some (.lst []):=ae;generalize (upd H e (.lst []))=H1 at s1 he1 ⊢;have hl1:=s1.seq hl;have pp1:=Paired.imp (fun _ _ y=>PlE.tk s1.tk y) pp;refine⟨.list (ps.map plD),.list [],.lst hl1 (oG pp1),.lst (SqL.of he1) .nil,k8 ly,rfl,FF rfl,_,rfl,?_⟩;refine bw (fun h1=>⟨_,rfl,_,rfl,z,97,m,rfl,m0,by decide,fun k hk=>q k _ hk s1⟩) (fun h1=>?_);have ne:ps≠[]:=fun y=>h1 (by subst y;rfl);have pos:0<ps.length:=List.length_pos_iff.mpr ne;refine⟨_,rfl,z,96,8,rfl,by decide,by decide,fun j hj=>⟨rfl,_,rfl,?_⟩⟩;refine bw (fun h2=>⟨_,rfl,_,rfl,z,97,m,rfl,m0,by decide,fun k hk=>q k _ hk s1⟩) (fun h2=>?_);refine⟨_,rfl,_,rfl,_,rfl,l,xs,rfl,.inl hl1,z,98,xs.length,rfl,by lia,by decide,fun k hk=>?_⟩;obtain⟨p,hp,r,ls,lr,ev,r1,r2,r3⟩:=aM pp1 (Fy hk);obtain⟨g0,gm⟩:=hg p (Fs hp);refine⟨l,_,_,_,rfl,rfl,hl1,az (Fy hk),?_⟩;rw[ev];refine⟨_,rfl,m,rfl,by lia,by lia,fun A hA=>?_⟩;have sA:∀o:HO,ak H1 (upd H1 A o):=fun o=>ak.upd hA;have lf:∀i,i<=m->((List.range i).filter p.g.testBit).length<=64:=fun i hi=>FW (GV _ _) (by rw[GJ];lia);rw[Gg];refine mh (n:=m) (lo:=0) (fun i acc H2=>H2=upd H1 A (.lst acc)/\acc=NV ((List.range i).filter p.g.testBit)) ⟨rfl,rfl⟩ ?_ ?_
 ·rintro i acc H2 hi ⟨rfl,rfl⟩;rw[show(0:Int)+(i:Int)=((i:Nat):Int) by omega];refine dD ?_;intro kq1 kr1;refine⟨_,rfl,r,_,_,_,rfl,rfl,(sA _).tup r1,az (j:=0) rfl,_,rfl,p.g,i,rfl,by lia,_,rfl,?_⟩;refine bw (fun h3=>?_) (fun h3=>⟨rfl,?_⟩)
  ·refine⟨_,rfl,ae,?_,by rw[bc],?_⟩
   ·rw[Fm];exact aD (by have:=lf i (by lia);lia)
   ·rw[List.range_succ,Gh,gJ];simp[h3]
  ·rw[List.range_succ,Gh,gJ];simp[h3]
 rintro acc H2 ⟨rfl,rfl⟩;have posF:0<((List.range m).filter p.g.testBit).length:=by have b1:LM.bW p.g<m:=gB gm m64 g0;have:LM.bW p.g∈(List.range m).filter p.g.testBit:=List.mem_filter.mpr ⟨F9.mpr b1,(cE (FE gm (Gf (by decide) m64)) g0).1⟩;exact List.length_pos_of_mem this
 refine⟨_,rfl,_,rfl,_,rfl,A,_,rfl,.inl (SqL.of ae),z,99,(NV ((List.range m).filter p.g.testBit)).length,rfl,by rw[Fm];exact posF,by decide,fun k hk=>?_⟩;rw[Fm]at hk;refine⟨A,_,_,_,rfl,rfl,SqL.of ae,az (by rw[FO,Fy hk];rfl),q _ _ ?_ (s1.trans (sA _))⟩;exact F9.mp (List.mem_filter.mp (List.getElem_mem hk)).1
def gh(K:Frag):Sp:=fun vs H Q _=>∃(z w:Int),vs=[.int z,.int w]/\∀l ss H',ak H H'->SqT K H' l (SV ss)->(∀x∈ss,PyData.canLay0 (.str x)=true)->Q (.ref l) H'
variable(dE:Df P w K mg base 2 "_law_make_signed" ["_law_cell","_law_way"] (gh K))
theorem eN:aB ["_law_cell","_law_way","_law_some_here"] ["_law_cell","_law_way"] (ao (top 52)):=by trivial
include B aC cI aX in
theorem j9(T:Tx K mg "_law_make_signed" (top 52) ["_law_cell","_law_way"]):Df P w K mg base 2 "_law_make_signed" ["_law_cell","_law_way"] (gh K):=by
 refine T.df eN (by rintro _ _ _ _ ⟨z,w,rfl,q⟩;rfl) ?_;rintro f _ A _ s H _ Q E hr ⟨z,w,rfl,q⟩;refine aN ?_;intro kX;refine ah 2 (aj (aE (bU b9 (by rfl) B.tuple boot_tuple (aa (bI ["_law_k"] [("_law_way",1),("_law_some_here",2)] (fb _ ["_law_way","_law_some_here"]) rfl (by rfl) rfl (by trivial) (by trivial) (aP (by rfl)) (b8 (by rfl)) (mC ⟨rfl,rfl⟩ (mC ⟨rfl,rfl⟩ mN)) (mC rfl (mC rfl mN)) (bu (by decide)) (bL (by rfl) B.range (aa af ag)) (fun _ _ _ _=>aK (i:=0) (show(["_law_k","_law_way","_law_some_here"]:List Str).Nodup by trivial) rfl (Or.inl rfl) (Or.inr rfl)) (fun _ _ _ _=>ji (eY (aA aX hr (aa (pv 2) (aa (pv 0) ag))))) (fun _ _ _ _=>(aA cI hr (aa (pv 0) (aa (pv 1) ag))))) ag)))) ?_;intro kR2 pR2;refine ah 1 (bF (aV (aG cN (aA aC hr (aa (pv 0) (aa af (aa af ag)))) af (aL _)) (aj (aw (i:=2) eN.nd rfl (by trivial) (aA aC hr (aa (pv 0) (aa af (aa af ag)))))) aI) pR2) ?_;intro kR1 pR1;refine⟨_,(ai (aw (i:=2) eN.nd rfl (by trivial) af) pR1),?_⟩;refine⟨fun σ' H'=>∃m:Nat,σ'=[some (.int z),some (.int w),some (.int m)]/\H'=H,?_,?_⟩
 ·refine fU ?_;intro kD1;refine⟨_,rfl,z,2,4,rfl,by decide,by decide,fun j hj=>⟨rfl,_,rfl,?_⟩⟩;refine bw (fun h1=>?_) (fun h1=>⟨63,rfl,rfl⟩);exact⟨_,rfl,z,3,64,rfl,by decide,by decide,fun m hm=>⟨m,rfl,rfl⟩⟩
 rintro σ' H' ⟨m,rfl,rfl⟩;refine⟨6,rfl,by decide,by decide,fun A hA=>?_⟩;refine mh (n:=6) (lo:=0) (fun i acc H2=>H2=upd H' A (.lst acc)/\∃ss,acc=SV ss/\ss.length<=i/\∀x∈ss,PyData.canLay0 (.str x)=true) ⟨rfl,[],rfl,Fv _,fun _ y=>nomatch y⟩ ?_ ?_
 ·rintro i acc H2 hi ⟨rfl,ss,rfl,ls,lay⟩;rw[show(0:Int)+(i:Int)=((i:Nat):Int) by omega];refine dD ?_;intro kq2 kr2;refine⟨_,rfl,_,rfl,m,i,rfl,by lia,_,rfl,?_⟩;refine bw (fun h1=>?_) (fun h1=>⟨rfl,ss,rfl,by lia,lay⟩);refine⟨_,rfl,_,rfl,i,w,rfl,hi,ae,?_,by rw[bc],ss++[ik w i],by simp[SV],by rw[Fz,GC];lia,fun x hx=>?_⟩
  ·rw[show(SV ss).length=ss.length from Fm _];exact aD (by lia)
  ·rcases FC.mp hx with y|y
   ·exact lay x y
   ·rw[Fq.mp y];exact(si hi).1.lay
 rintro acc H2 ⟨rfl,ss,rfl,ls,lay⟩;refine⟨A,_,rfl,.inl ⟨SqL.of ae,fun l hl=>?_⟩⟩;exact q l ss _ ((ak.upd hA).trans (ak.upd hl)) (SqT.of ae) lay
def i7(K:Frag):Sp:=fun vs H Q _=>∃(v:V)(p:Plt)(f:Nat->Option Col),vs=[v]/\PlE K H v p/\bj f p.R/\(∀i,64<=i->f i=none)/\∀(d:Addr)(kvs:List (Key×V))(ks:List Nat) H',ak H H'->H d=none->H' d=some (.dK kvs)->GD K H' kvs f->(kvs.map fun q=>kV q.1)=NV ks->ks.Pairwise (·<·)->(∀i,i∈ks<->(f i).isSome=true)->(∀i∈ks,i<64)->Q (.ref d) H'
variable(cJ:Df P w K mg base 2 "_law_by_cell" ["_law_plot"] (i7 K))
theorem dJ:aB ["_law_plot","_law_columns","_law_k","_law_cells","_law_column"] ["_law_plot"] (ao (top 56)):=by trivial
include B aX in
theorem oS(T:Tx K mg "_law_by_cell" (top 56) ["_law_plot"]):Df P w K mg base 2 "_law_by_cell" ["_law_plot"] (i7 K):=by
 refine T.df dJ (by rintro _ _ _ _ ⟨v,p,f,rfl,hp,hf,f64,q⟩;rfl) ?_;rintro f _ A _ s H _ Q E hr ⟨v,p,f,rfl,hp,hf,f64,q⟩;have hu:=hr.units;refine aN ?_;intro kX;refine ah 2 (aj (aE (pv 1))) ?_;intro kR2 pR2;refine ah 1 (ai (cu FZ rfl (bL (by rfl) B.range (aa af ag)) (aK (i:=2) dJ.nd rfl (by trivial)) (aj (cu FZ rfl (eO (aJ aO (pv 0) af (fun _ _=>rfl))) (rG rfl (fL (aK (i:=3) dJ.nd rfl (by trivial)) (fL (aK (i:=4) dJ.nd rfl (by trivial)) nW))) (aj (aV (eY (aA aX hr (aa (pv 3) (aa (pv 2) ag)))) (aj (iE (iq hr) (pv 1) (pv 2) (pv 4) rfl)) aI))))) pR2) ?_;intro kR1 pR1;refine⟨_,(ai (aw (i:=1) dJ.nd rfl (by trivial) jj) pR1),?_⟩;obtain⟨l,ls,lr,rfl,h1,h2,xs,hl,pr⟩:=hp;intro d hd;have sd:∀o:HO,ak H (upd H d o):=fun o=>ak.upd hd;refine⟨64,rfl,by decide,by decide,gb (n:=64) (lo:=0) (fun k σ H2=>∃(o2 o3 o4:Option V)(kvs:List (Key×V)),σ=[some (.ref l),some (.ref d),o2,o3,o4]/\H2=upd H d (.dK kvs)/\GD K H kvs (fun i=>if i<k then f i else none)/\(kvs.map fun q=>kV q.1)=NV ((List.range k).filter fun i=>(f i).isSome)) ⟨none,none,none,[],rfl,rfl,?_,rfl⟩ ?_ ?_⟩
 ·have e:(fun i=>if i<0 then f i else none)=fun _=>none:=funext fun i=>FA (Nat.not_lt_zero _);rw[e];exact GD.nil
 ·rintro k σ H2 hk ⟨o2,o3,o4,kvs,rfl,rfl,gd,ek⟩;rw[show(0:Int)+(k:Int)=((k:Nat):Int) by omega];refine dB ?_;intro kD1;have lk:kvs.length<=64:=by
   have:=congrArg List.length ek;rw[Fm,Fm]at this;rw[this];exact FW (GV _ _) (by rw[GJ];omega)
  have v0:eK kvs (.inl (k:Int))=none:=by
   rcases gd k with y|⟨_,c,_,e,_⟩
   ·exact y.1
   ·have e':(if k<k then f k else none)=some c:=e;rw[FA (G3 _)]at e';cases e'
  refine⟨_,rfl,l,_,_,_,rfl,rfl,(sd _).tup h1,az (j:=2) rfl,lr,rfl,⟨_,(sd _).tup hl⟩,gW (K:=K) (a:=lr) (xs:=xs) (fun j σ H2=>∃(o3 o4:Option V)(kvs':List (Key×V)),σ=[some (.ref l),some (.ref d),some (.int (k:Nat)),o3,o4]/\H2=upd H d (.dK kvs')/\(((∀q0∈p.R.take j,¬q0.1.testBit k=true)/\kvs'=kvs)\/∃q0 b,q0∈p.R.take j/\q0.1.testBit k=true/\bJ K H b q0.2/\kvs'=putK kvs (.inl (k:Int)) (.ref b))) ⟨o3,o4,kvs,rfl,rfl,(.inl ⟨(fun _ z=>nomatch z),rfl⟩)⟩ (fun j σ H2 _ hPz=>hPz.elim fun _ hPz=>hPz.elim fun _ hPz=>hPz.elim fun _ hPz=>(fun e=>by rw[e];exact(sd _).tup hl) (hPz.2.1)) ?_ ?_⟩
  ·rintro j y σ H2 hj ⟨o3',o4',kvs',rfl,rfl,hk'⟩;refine dB ?_;intro kD2;obtain⟨q0,hq0,r1,b,rfl,hr1,hb⟩:=aM pr hj;have qin:=Fs hq0;have tk1:p.R.take (j+1)=p.R.take j++[q0]:=(by rw[FJ,hq0];rfl);refine⟨r1,_,rfl,(sd _).tup hr1,rfl,_,_,rfl,_,_,rfl,rfl,?_⟩;refine⟨_,rfl,_,rfl,q0.1,k,rfl,by omega,_,rfl,?_⟩;refine bw (fun z=>?_) (fun z=>?_)
   ·have old:(∀q0∈p.R.take j,¬q0.1.testBit k=true)/\kvs'=kvs:=by
     rcases hk' with y|⟨q1,b1,m1,z1,_⟩
     ·exact y
     ·exfalso;have nd:=hf.nd;rw[<-Gs j p.R,FN,GY]at nd;have hd1:q0∈p.R.drop j:=by
       rw[iK hq0];exact Fw ..
      have e1:=((hf.ok q1 (Gw m1)).2.2 k hk).mp z1;have e2:=((hf.ok q0 qin).2.2 k hk).mp z;rw[e1]at e2;exact nd.2.2 q1.2 (Fp.mpr ⟨q1,m1,rfl⟩) q0.2 (Fp.mpr ⟨q0,hd1,rfl⟩) (F0 e2)
    obtain⟨o1,rfl⟩:=old;refine⟨_,rfl,_,rfl,_,rfl,d,_,rfl,pN.k (k:=.inl (k:Int)) ae (aD (by lia)),?_⟩;exact⟨_,_,_,rfl,by rw[bc],.inr ⟨q0,b,by rw[tk1];exact FX _ (Fq.mpr rfl),z,hb,rfl⟩⟩
   ·refine⟨_,_,kvs',rfl,rfl,?_⟩;rcases hk' with⟨y1,y2⟩|⟨q1,b1,m1,z1,y⟩
    ·refine .inl ⟨fun x hx=>?_,y2⟩;rw[tk1]at hx;rcases FC.mp hx with w|w
     ·exact y1 x w
     ·rw[Fq.mp w];exact z
    ·exact .inr ⟨q1,b1,by rw[tk1];exact FR _ m1,z1,y⟩
  ·rintro σ H2 ⟨o3',o4',kvs',rfl,rfl,hk'⟩;rw[Fx pr,FU]at hk';rcases hk' with⟨y1,rfl⟩|⟨q0,b,m1,z1,hb,rfl⟩
   ·have fk:f k=none:=by
     cases e:f k with
     |none=>rfl
     |some c=>obtain⟨q0,hq0,e2⟩:=Fp.mp (hf.all k c hk e);exact absurd (((hf.ok q0 hq0).2.2 k hk).mpr (by rw[e,e2])) (y1 q0 hq0)
    refine⟨_,_,_,kvs',rfl,rfl,?_,?_⟩
    ·have e:(fun i=>if i<k+1 then f i else none)=fun i=>if i<k then f i else none:=funext fun i=>by
      by_cases y:i=k
      ·subst y;rw[FH (by omega),FA (by lia),fk]
      ·have:i<k+1<->i<k:=⟨fun _=>by lia,fun _=>by lia⟩;simp only[this]
     rw[e];exact gd
    ·rw[List.range_succ,Gh,gJ,ek];simp[fk]
   ·have fk:=((hf.ok q0 m1).2.2 k hk).mp z1;refine⟨_,_,_,_,rfl,rfl,?_,?_⟩
    ·have e:(fun i=>if i<k+1 then f i else none)=fun i=>if i=k then some q0.2 else(if i<k then f i else none):=funext fun i=>by
      by_cases y:i=k
      ·subst y;rw[FH (by omega),FH rfl,fk]
      ·have:i<k+1<->i<k:=⟨fun _=>by omega,fun _=>by omega⟩;rw[FA y];simp only[this]
     rw[e];exact GD.put gd hb
    ·rw[tP _ v0,FN,ek,List.range_succ,Gh,gJ];simp[fk,kV]
 ·rintro σ H2 ⟨o2,o3,o4,kvs,rfl,rfl,gd,ek⟩;have e:(fun i=>if i<64 then f i else none)=f:=funext fun i=>by
   by_cases y:i<64
   ·rw[FH y]
   ·rw[FA y,f64 i (by lia)]
  rw[e]at gd;refine⟨_,rfl,q d kvs _ _ (sd _) hd ae (gd.tk (sd _).tk) ek (List.Pairwise.filter _ List.pairwise_lt_range) (fun i=>?_) (fun i hi=>F9.mp (List.mem_filter.mp hi).1)⟩;rw[List.mem_filter,F9];refine⟨fun y=>y.2,fun y=>⟨?_,y⟩⟩;by_cases w:i<64
  ·exact w
  ·rw[f64 i (by omega)]at y;cases y
def m8(K:Frag):Sp:=fun vs H Q _=>∃(z:Int)(v:V)(b:Addr)(ws:List V)(rs:List (List Key)),vs=[.int z,v,.ref b]/\(v=.non\/∃p,PlE K H v p/\jw rs p.R)/\SqL K H b ws/\(∃rs',Paired (bS K H) ws rs'/\rs'.length=13/\∀r∈rs',du r)/\∀(n:Int) H',ak H H'->Q (.int n) H'
variable(gG:Df P w K mg base 2 "_law_some" ["_law_cell","_law_plot","_law_pool"] (m8 K))
theorem nz:aB ["_law_cell","_law_plot","_law_pool","_law_some_here"] ["_law_cell","_law_plot","_law_pool"] (ao (top 59)):=by trivial
include B aZ aC in
theorem t8(T:Tx K mg "_law_some" (top 59) ["_law_cell","_law_plot","_law_pool"]):Df P w K mg base 2 "_law_some" ["_law_cell","_law_plot","_law_pool"] (m8 K):=by
 refine T.df nz (by rintro _ _ _ _ ⟨z,v,b,ws,rs,rfl,hv,hb,⟨rs1,pr,l13,br⟩,q⟩;rfl) ?_;rintro f _ A _ s H _ Q E hr ⟨z,v,b,ws,rs,rfl,hv,hb,⟨rs1,pr,l13,br⟩,q⟩;refine aN ?_;intro kX;refine ah 1 (aj (aE (aJ aO (aJ bV (pv 2) (aA aC hr (aa (pv 0) (aa af (aa af ag)))) (fun _ _=>rfl)) af (fun _ _=>rfl)))) ?_;intro kR1 pR1;refine⟨_,(ai (aV ((yX (aG rM (pv 1) cH (aL _)) (wd (aG nG (aA aC hr (aa (pv 0) (aa af (aa af ag)))) af (aL _)))).pt) (ai (aw (i:=3) nz.nd rfl (by trivial) (aA aZ hr (aa (pv 1) ag))) (aj (aV (aG nG (aY bO (by rfl) B.len G2 (aa (pv 3) ag)) af (aL _)) (aj (aE (aJ aO (aJ bV (pv 3) (aA aC hr (aa (pv 0) (aa af (aa (aY bO (by rfl) B.len G2 (aa (pv 3) ag)) ag)))) (fun _ _=>rfl)) af (fun _ _=>rfl)))) aI))) aI) pR1),?_⟩;have lw:=Fx pr;have fin:∀H1,ak H H1->∃x,[some (V.int z),some v,some (V.ref b)][2]?=some (some x)/\x=V.ref b:=fun _ _=>⟨_,rfl,rfl⟩;have num:∀{H1:Hp}{ws1:List V}{rs2:List (List Key)}{k:Nat},Paired (bS K H1) ws1 rs2->(∀r∈rs2,du r)->(hk:k<ws1.length)->∃a xs n,ws1[k]=.ref a/\SqT K H1 a xs/\atI xs 0=some (.int n):=fun {H1 ws1 rs2 k} p br hk=>by obtain⟨r,hr,lay,a,e,ha⟩:=aM p (Fy hk);obtain⟨n,k',x,m,u,er⟩:=br r (Fs hr);rw[er]at ha;exact⟨a,_,n,e,ha,az (j:=0) rfl⟩
 rcases hv with rfl|⟨p,hp,hN⟩
 ·refine⟨_,rfl,rfl,_,rfl,fM (fM ?_)⟩;refine⟨_,rfl,_,rfl,z,124,13,rfl,by decide,by decide,fun k hk=>?_⟩;obtain⟨a,xs,n,e,ha,e0⟩:=num (k:=k) pr br (by lia);refine⟨b,_,_,_,rfl,rfl,hb,az (Fy (by lia)),?_⟩;rw[e];exact⟨a,xs,_,_,rfl,rfl,ha,e0,q _ _ (ak.refl _)⟩
 obtain⟨l0,ls0,lr0,rfl,_⟩:=id hp;refine⟨_,rfl,rfl,_,rfl,ip ?_⟩;refine⟨_,rfl,z,122,5,rfl,by decide,by decide,fun j hj=>⟨_,_,rfl,rfl,_,rfl,?_⟩⟩;refine bw (fun h1=>?_) (fun h1=>?_)
 ·refine⟨_,rfl,_,p,rs,rfl,hp,hN,fun l ys T H1 s1 hl py hB=>?_⟩;have ly:=Fx py;have bT:∀r∈T,du r:=fun r hr=>by
   obtain⟨c,hc,hr'⟩:=(hB.mem r).mp hr;obtain⟨q',hq',rfl⟩:=Fp.mp hc;exact hN.bur r (hN.sub q' hq' r hr')
  refine⟨_,rfl,l,ys,rfl,.inl hl,_,_,rfl,rfl,_,rfl,?_⟩;refine bw (fun h2=>?_) (fun h2=>?_)
  ·have pos:0<ys.length:=by
    have:=F7 h2
    lia
   refine⟨_,rfl,_,rfl,_,rfl,l,ys,rfl,.inl hl,z,123,ys.length,rfl,pos,by decide,fun k hk=>?_⟩;obtain⟨a,xs,n,e,ha,e0⟩:=num py bT hk;refine⟨l,_,_,_,rfl,rfl,hl,az (Fy hk),?_⟩;rw[e];exact⟨a,xs,_,_,rfl,rfl,ha,e0,q _ _ s1⟩
  ·have pr1:=Paired.imp (fun _ _ y=>bS.tk s1.tk y) pr;refine⟨_,rfl,_,rfl,z,124,13,rfl,by decide,by decide,fun k hk=>?_⟩;obtain⟨a,xs,n,e,ha,e0⟩:=num (k:=k) pr1 br (by lia);refine⟨b,_,_,_,rfl,rfl,s1.seq hb,az (Fy (by omega)),?_⟩;rw[e];exact⟨a,xs,_,_,rfl,rfl,ha,e0,q _ _ s1⟩
 ·refine⟨_,rfl,_,rfl,z,124,13,rfl,by decide,by decide,fun k hk=>?_⟩;obtain⟨a,xs,n,e,ha,e0⟩:=num (k:=k) pr br (by lia);refine⟨b,_,_,_,rfl,rfl,hb,az (Fy (by omega)),?_⟩;rw[e];exact⟨a,xs,_,_,rfl,rfl,ha,e0,q _ _ (ak.refl _)⟩
def jO(K:Frag):Sp:=fun vs H Q _=>∃(v:V)(p:Plt)(d:Addr)(num:Int)(kvs:List (Key×V))(g:Nat->Option Col)(ks:List Nat),vs=[v,.ref d,.int num]/\PlE K H v p/\H d=some (.dK kvs)/\GD K H kvs g/\(kvs.map fun q=>kV q.1)=NV ks/\ks.Pairwise (·<·)/\ks.length<=64/\(∀i,i∈ks<->(g i).isSome=true)/\(∀i∈ks,i<64)/\∀R' u H',ak H H'->bj g R'->IsD K H' (outD (.does p ⟨p.g,p.S,R',num⟩)) u->Q u H'
variable(de:Df P w K mg base 2 "_law_behind" ["_law_plot","_law_columns","_law_number"] (jO K))
theorem pW:aB ["_law_plot","_law_columns","_law_number"] ["_law_plot","_law_columns","_law_number"] (ao (top 60)):=by trivial
include B bB in
theorem qc(T:Tx K mg "_law_behind" (top 60) ["_law_plot","_law_columns","_law_number"]):Df P w K mg base 2 "_law_behind" ["_law_plot","_law_columns","_law_number"] (jO K):=by refine T.df pW (by rintro _ _ _ _ ⟨v,p,d,num,kvs,g,ks,rfl,hp,hd,gd,ek,nk,lk,mk,k64,q⟩;rfl) ?_;rintro f _ A _ s H _ Q E hr ⟨v,p,d,num,kvs,g,ks,rfl,hp,hd,gd,ek,nk,lk,mk,k64,q⟩;refine⟨_,(aj (aE (aR (aa aS (aa (aR (aa (aR (aa (pv 0) ag)) (aa (aR (aa (aR (aa (aJ aO (pv 0) af (fun _ _=>rfl)) (aa (aJ aO (pv 0) af (fun _ _=>rfl)) (aa (aA bB hr (aa (pv 1) ag)) (aa (pv 2) ag))))) ag)) (aa (aR ag) ag)))) ag))))),?_⟩;obtain⟨l,l1',lr,rfl,p1,p2,p3⟩:=hp;refine⟨_,rfl,aF rfl,fun t1 ht1=>?_⟩;have s5:=ak.upd (o:=.tup [.ref l]) ht1;refine⟨_,rfl,l,_,_,_,rfl,rfl,s5.tup p1,az (j:=0) rfl,_,rfl,l,_,_,_,rfl,rfl,s5.tup p1,az (j:=1) rfl,_,rfl,d,kvs,g,ks,rfl,s5 _ _ hd,gd.tk s5.tk,ek,nk,lk,mk,k64,fun b R' H3 s3 hT' hG'=>?_⟩;refine⟨_,rfl,aF rfl,fun l4 hl4=>?_⟩;have s4:=ak.upd (o:=.tup [.int (p.g:Nat),.ref l1',.ref b,.int num]) hl4;refine⟨aF rfl,fun t2 ht2=>?_⟩;have s6:=ak.upd (o:=.tup [.ref l4]) ht2;refine⟨aF rfl,fun t3 ht3=>?_⟩;have s7:=ak.upd (o:=.tup []) ht3;refine⟨aF rfl,fun t4 ht4=>?_⟩;have s8:=ak.upd (o:=.tup [.ref t1,.ref t2,.ref t3]) ht4;refine⟨aF rfl,fun t5 ht5=>?_⟩;have s9:=ak.upd (o:=.tup [.str "does",.ref t4]) ht5;have s49:=s4.trans (s6.trans (s7.trans (s8.trans s9)));have sZ:=s5.trans (s3.trans s49);have e1:PlE K _ (.ref l) p:=PlE.tk sZ.tk ⟨l,l1',lr,rfl,p1,p2,p3⟩;have e2:PlE K _ (.ref l4) ⟨p.g,p.S,R',num⟩:=PlE.tk (s6.trans (s7.trans (s8.trans s9))).tk ⟨l4,l1',b,rfl,SqT.of ae,p2.tk (s5.trans (s3.trans s4)).tk,hT'.tk s4.tk⟩;exact q R' _ _ sZ hG' (.tup (SqT.of ae) (.cons (.str _) (.cons (.tup (s9.tup (SqT.of ae)) (.cons (.tup ((s3.trans s49).tup (SqT.of ae)) (.cons e1.isD .nil)) (.cons (.tup ((s7.trans (s8.trans s9)).tup (SqT.of ae)) (.cons e2.isD .nil)) (.cons (.tup ((s8.trans s9).tup (SqT.of ae)) .nil) .nil)))) .nil)))
def iY(K:Frag):Sp:=fun vs H Q _=>∃(a:Addr)(ns:List Int)(j:Nat),vs=[.ref a,.int j]/\SqL K H a (ns.map V.int)/\j<=3/\∀(l:Addr)(ms:List Int) H',ak H H'->SqL K H' l (ms.map V.int)->Q (.ref l) H'
variable(fF:Df P w K mg base 2 "_law_shifted" ["_law_script","_law_j"] (iY K))
theorem oA:aB ["_law_script","_law_j"] ["_law_script","_law_j"] (ao (top 64)):=by trivial
include B aH in
theorem oP(T:Tx K mg "_law_shifted" (top 64) ["_law_script","_law_j"]):Df P w K mg base 2 "_law_shifted" ["_law_script","_law_j"] (iY K):=by
 refine T.df oA (by rintro _ _ _ _ ⟨a,ns,j,rfl,hS,hj,q⟩;rfl) ?_;rintro f _ A _ s H _ Q E hr ⟨a,ns,j,rfl,hS,hj,q⟩;refine⟨_,(aj (aE (bI ["_law_k"] [("_law_script",0),("_law_j",1)] (fb _ ["_law_script","_law_j"]) rfl (by rfl) rfl (by trivial) (by trivial) (aP (by rfl)) (b8 (by rfl)) (mC ⟨rfl,rfl⟩ (mC ⟨rfl,rfl⟩ mN)) (mC rfl (mC rfl mN)) (bu (by decide)) (bL (by rfl) B.range (aa af ag)) (fun _ _ _ _=>aK (i:=0) (show(["_law_k","_law_script","_law_j"]:List Str).Nodup by trivial) rfl (Or.inl rfl) (Or.inr rfl)) (fun _ _ _ _=>bz) (fun _ _ _ _=>(aq bg (aA aH hr (aa (pv 1) (aa (pv 0) ag))) (aq bZ (aq bZ (aq bZ (pv 2) af) (aq bg (pv 0) af)) (bU mW (by rfl) B.int boot_int (aa (cY nG (pv 0) af (aL _)) ag)))))))),?_⟩;refine⟨20,rfl,by decide,by decide,fun A hA=>?_⟩;refine mh (n:=20) (lo:=0) (fun i acc H2=>H2=upd H A (.lst acc)/\∃ms:List Int,acc=ms.map V.int/\ms.length=i) ⟨rfl,[],rfl,rfl⟩ ?_ ?_
 ·rintro i acc H2 hi ⟨rfl,ms,rfl,lm⟩;rw[show(0:Int)+(i:Int)=((i:Nat):Int) by omega];refine dD ?_;intro kq1 kr1;refine⟨_,rfl,_,rfl,a,ns,i,rfl,(ak.upd hA).seq hS,_,rfl,_,_,rfl,rfl,.inl ⟨by lia,by lia⟩,_,rfl,_,_,rfl,rfl,_,_,rfl,rfl,.inl ⟨by lia,by lia⟩,_,rfl,_,_,rfl,rfl,.inr ⟨_,rfl,?_⟩⟩;refine⟨_,_,rfl,rfl,.inr ⟨by split<;>decide,by split<;>decide⟩,_,_,rfl,rfl,ae,?_,by rw[bc],ms++[_],by rw[FN];rfl,by rw[Fz,lm];rfl⟩;rw[Fm];exact aD (by lia)
 rintro acc H2 ⟨rfl,ms,rfl,lm⟩;exact q A ms _ (ak.upd hA) (SqL.of ae)
def kR(K:Frag):Sp:=fun vs H Q _=>∃(v:V)(p:Plt)(rs:List (List Key))(n:Int),vs=[v,.int n]/\PlE K H v p/\jw rs p.R/\∀H',ak H H'->(∀v r,OnR p.R r->av r=n->bS K H' v r->Q v H')/\((∀r,OnR p.R r->av r≠n)->Q .non H')
variable(cV:Df P w K mg base 3 "burden_on" ["plot","number"] (kR K))
theorem kW:aB ["plot","number","burden"] ["plot","number"] (ao (top 14)):=by trivial
include B f7 in
theorem rY(T:Tx K mg "burden_on" (top 14) ["plot","number"]):Df P w K mg base 3 "burden_on" ["plot","number"] (kR K):=by
 refine T.df kW (by rintro _ _ _ _ ⟨v,p,rs,n,rfl,hp,hN,q⟩;rfl) ?_;rintro f _ A _ s H _ Q E hr ⟨v,p,rs,n,rfl,hp,hN,q⟩;refine aN ?_;intro kX;refine ah 1 (aj (aE cH)) ?_;intro kR1 pR1;refine⟨_,(ai (cu FZ rfl (eO (aA f7 hr (aa (aJ aO (pv 0) af (fun _ _=>rfl)) ag))) (aK (i:=2) kW.nd rfl (by trivial)) (aj (aV (aG cN (aJ aO (pv 2) af (fun _ _=>rfl)) (pv 1) (aL _)) (aj (aE (pv 2))) aI))) pR1),?_⟩;obtain⟨l,ls,lr,rfl,h1,h2,h3⟩:=hp;refine⟨_,rfl,l,_,_,_,rfl,rfl,h1,az (j:=2) rfl,lr,p.R,rs,rfl,h3,(by have:=hN.len;lia),hN.sub,hN.l59,hN.bur,hN.nd,fun b T H' s' hB hc=>?_⟩;obtain⟨xs,hx,pr⟩:=hc.bur;have on:∀r,r∈T<->OnR p.R r:=fun r=>by
  rw[hB.mem];constructor
  ·rintro⟨c,hc,hr⟩;obtain⟨q,hq,rfl⟩:=Fp.mp hc;exact⟨q,hq,hr⟩
  ·rintro⟨q,hq,hr⟩;exact⟨_,Fp.mpr ⟨q,hq,rfl⟩,hr⟩
 have hb:∀r∈T,du r:=fun r hr=>by obtain⟨q,hq,hr'⟩:=(on r).mp hr;exact hN.bur r (hN.sub q hq r hr')
 refine⟨b,rfl,⟨_,hx⟩,gW (K:=K) (a:=b) (xs:=xs) (fun i σ H2=>∃o2:Option V,σ=[some (.ref l),some (.int n),o2]/\H2=H'/\∀r∈T.take i,av r≠n) ⟨none,rfl,rfl,fun _ z=>nomatch z⟩ (fun i σ H2 _ hPz=>hPz.elim fun _ hPz=>(fun e=>by rw[e];exact hx) (hPz.2.1)) ?_ ?_⟩
 ·rintro i y σ H2 hi ⟨o2,rfl,rfl,hn⟩;refine dB ?_;intro kD1;obtain⟨r,hr,bur⟩:=aM pr hi;obtain⟨lay,ab,rfl,ha⟩:=id bur;have rin:=Fs hr;obtain⟨nn,k,x,m,u,er⟩:=hb r rin;have en:av r=nn:=by rw[er];rfl
  rw[er]at ha;refine⟨_,rfl,ab,_,_,_,rfl,rfl,ha,(az (j:=0) rfl),_,rfl,rfl,_,rfl,?_⟩;refine bw (fun z=>?_) (fun z=>?_)
  ·exact⟨_,rfl,(q _ s').1 _ r ((on r).mp rin) (by rw[en];exact veq.mp z) bur⟩
  ·refine⟨_,rfl,rfl,fun r' hr'=>?_⟩;rw[FJ,hr,F2]at hr';rcases FC.mp hr' with w|w
   ·exact hn r' w
   ·rw[Fq.mp w,en];exact fun y=>z (veq.mpr y)
 ·rintro σ H2 ⟨o2,rfl,rfl,hn⟩;rw[Fx pr,FU]at hn;exact(q _ s').2 fun r hr=>hn r ((on r).mpr hr)
def nv(K:Frag)(mg:Str->Option Value):Sp:=fun vs H Q E=>∃(l:Addr)(xs:List V)(gs:List Nat)(c:Nat),vs=[.ref l,.int c]/\SqL K H l xs/\Paired (HdE K H) xs gs/\c<=64/\(cS xs gs c≠ .non->Q (cS xs gs c) H)/\(cS xs gs c=.non->∀dx H',ak H H'->H' dx=some (XD dx [("who",.str (Str.ofString "")),("word",.str (Str.ofString "waste"))])->E (yg mg "Falls") (some dx) H')
variable(eQ:DfN P w K mg base 3 "ask_plot" ["plots","cell"] (nv K mg))
theorem nE:aB ["plots","cell","plot"] ["plots","cell"] (ao (top 16)):=by trivial
include B jG dH bX cg in
theorem uk(T:Tx K mg "ask_plot" (top 16) ["plots","cell"]):DfN P w K mg base 3 "ask_plot" ["plots","cell"] (nv K mg):=by
 refine T.dfN nE (by rintro _ _ _ _ ⟨l,xs,gs,c,rfl,hl,pr,hc,q,e⟩;rfl) ?_;rintro f _ A _ s H _ Q E hr ⟨l,xs,gs,c,rfl,hl,pr,hc,q,e⟩;refine aN ?_;intro kX;refine ah 2 (aj (aE (pv 2))) ?_;intro kR2 pR2;refine ah 1 (ai (aV (aG hJ (pv 2) cH (aL _)) (aj (ij (W:=RzW H E) rfl (oJ dH hr (aa aS (aa aS (aa aS ag)))) (fun _ _ _ _ _ _ _ I hx ee=>kG I hx ee.1 ee.2))) aI) pR2) ?_;intro kR1 pR1;refine⟨_,(ai (aw (i:=2) nE.nd rfl (by trivial) (aA jG hr (aa (pv 0) (aa (pv 1) ag)))) pR1),?_⟩;refine⟨_,rfl,_,rfl,l,xs,gs,c,rfl,.inl hl,pr,hc,?_⟩;refine⟨_,rfl,rfl,_,rfl,?_⟩;refine bw (fun h2=>?_) (fun h2=>?_)
 ·exact⟨aF rfl,jE bX cg (ak.refl _) (e (F7 h2))⟩
 ·exact⟨_,rfl,q fun z=>h2 (FQ z)⟩
def jS(K:Frag)(mg:Str->Option Value):Sp:=fun vs H Q E=>∃(a C dx sg l:Addr)(fs:List (Str×V))(ss xs:List Str),vs=[.ref a,.ref l]/\H a=some (.ins C dx fs)/\xf K mg C/\fs.lookup ("wanting":Str)=none/\fs.lookup ("signed":Str)=some (.ref sg)/\SqT K H sg (SV ss)/\SqL K H l (SV xs)/\(∀x∈ss,PyData.canLay0 (.str x)=true)/\(∀x∈xs,PyData.canLay0 (.str x)=true)/\(fH ss xs=none->Q .non H)/\(∀x,fH ss xs=some x->∀dx H',ak H H'->H' dx=some (XD dx [("who",.str x),("word",.str (Str.ofString "sign"))])->E (yg mg "Falls") (some dx) H')
variable(c5:DfN P w K mg base 3 "ask_signed" ["paper","names"] (jS K mg))
theorem jV:aB ["paper","names","who"] ["paper","names"] (ao (top 17)):=by trivial
include B eI dH cy bX cg in
theorem qg(T:Tx K mg "ask_signed" (top 17) ["paper","names"]):DfN P w K mg base 3 "ask_signed" ["paper","names"] (jS K mg):=by
 refine T.dfN jV (by rintro _ _ _ _ ⟨a,C,dx,sg,l,fs,ss,xs,rfl,ha,PC,hw,hf,hs,hl,lss,lxs,q,e⟩;rfl) ?_;rintro f _ A _ s H _ Q E hr ⟨a,C,dx,sg,l,fs,ss,xs,rfl,ha,PC,hw,hf,hs,hl,lss,lxs,q,e⟩;refine aN ?_;intro kX;refine ah 1 (aj (aV (aG rM (pv 2) cH (aL _)) (aj (ij (W:=RzW H E) rfl (oJ dH hr (aa aS (aa aS (aa (pv 2) ag)))) (fun _ _ _ _ _ _ _ I hx ee=>kG I hx ee.1 ee.2))) aI)) ?_;intro kR1 pR1;refine⟨_,(ai (aw (i:=2) jV.nd rfl (by trivial) (tU (CX:=CX0) (E:=E0) (dvs:=[]) (ds:=[]) ["self","names"] 1 (pv 0) (hr.mono (by decide)) .nil tZ (aa (pv 1) ag))) pR1),?_⟩;obtain⟨CP,mP,eP⟩:=PC.want;have eC:CP=bE:=by have:=cy.mg;rw[mP]at this;cases this;rfl
 subst eC;refine⟨_,rfl,a,C,dx,fs,_,rfl,ha,PC.cls,eI.under eP,hw,_,rfl,a,C,dx,sg,l,fs,ss,xs,rfl,ha,PC,hf,hs,hl,lss,lxs,?_⟩;refine⟨_,rfl,rfl,_,rfl,?_⟩;cases hx:fH ss xs with
 |none=>exact fM (q hx)
 |some x=>exact ip ⟨_,rfl,aF rfl,jE bX cg (ak.refl _) (e x hx)⟩
def kJ(K:Frag):Sp:=fun vs H Q _=>∃(a:Addr)(n h:Int)(c:Col),vs=[.ref a,.int n,.int h]/\bJ K H a c/\GoodC c/\∀b H',ak H H'->bJ K H' b (dI n h c)->Q (.ref b) H'
variable(gY:Df P w K mg base 3 "waived_in" ["column","number","ahead"] (kJ K))
theorem fW:aB ["column","number","ahead","passing","first","moved"] ["column","number","ahead"] (ao (top 23)):=by trivial
include B dO c8 in
theorem rO(T:Tx K mg "waived_in" (top 23) ["column","number","ahead"]):Df P w K mg base 3 "waived_in" ["column","number","ahead"] (kJ K):=by
 refine T.df fW (by rintro _ _ _ _ ⟨a,n,h,c,rfl,hc,⟨hb,nd,hl⟩,q⟩;rfl) ?_;rintro f _ A _ s H _ Q E hr ⟨a,n,h,c,rfl,hc,⟨hb,nd,hl⟩,q⟩;have hu:=hr.units;refine aN ?_;intro kX;refine ah 4 (aj (aE (aq fA (aq fA (aq fA (d8 iA (pv 0) iF (dU (pv 4))) (aR (aa (aJ aO (pv 0) (pv 5) (fun _ _=>rfl)) ag))) (pv 3)) (d8 iA (pv 0) (dU (aq bg (pv 5) af)) iF)))) ?_;intro kR4 pR4;refine ah 3 (ai (aw (i:=5) fW.nd rfl (by trivial) (aA c8 hr (aa (pv 0) (aa (pv 2) ag)))) pR4) ?_;intro kR3 pR3;refine ah 2 (ai (aw (i:=4) fW.nd rfl (by trivial) (aA c8 hr (aa (pv 0) (aa (pv 1) ag)))) pR3) ?_;intro kR2 pR2;refine ah 1 (ai (aV (aG (rN hu) (pv 3) (aR ag) (aL _)) (aj (aE (pv 0))) aI) pR2) ?_;intro kR1 pR1;refine⟨_,(ai (aw (i:=3) fW.nd rfl (by trivial) (aA dO hr (aa (pv 0) (aa (pv 1) (aa (pv 2) ag))))) pR1),?_⟩;obtain⟨xs,hx,pr⟩:=hc.bur;have lx:xs.length=c.length:=Fx pr;refine⟨_,rfl,_,rfl,_,rfl,a,n,h,c,rfl,hc,hb,fun p H1 s1 hp=>?_⟩;have lp:=gV (dX n h c) hp.1;have dp:(iw (dX n h c)).depth<=50:=FW (lV _) (by decide);refine⟨_,rfl,aF rfl,fun e0 he0=>?_⟩;have sE:=ak.upd (o:=.tup []) he0;have hE:bJ K (upd H1 e0 (.tup [])) e0 []:=bJ.of (SqT.of ae) .nil;have s2:=s1.trans sE;have hp2:=hp.tk sE.tk;generalize (upd H1 e0 (.tup []))=H2 at sE hE s2 hp2 ⊢;refine⟨iw (dX n h c),iw [],hp2.isD,hE.isD,lp,gV [] hE.1,FW (lV []) (by decide),_,rfl,?_⟩;rw[sV];refine bw (fun h1=>?_) (fun h1=>?_)
 ·have e:dX n h c=[]:=F7 h1;refine⟨_,rfl,q a H2 s2 ?_⟩;unfold dI;rw[FH e];exact hc.tk s2.tk
 ·have ne:dX n h c≠[]:=fun z=>h1 (FQ z);refine⟨_,rfl,_,rfl,a,n,c,rfl,hc.tk s2.tk,hb,fun H3 s3=>⟨fun i hi=>?_,fun hn=>absurd (lj hn) ne⟩⟩;have s13:=s2.trans s3;refine⟨_,rfl,_,rfl,a,h,c,rfl,hc.tk s13.tk,hb,fun H4 s4=>⟨fun j hj=>?_,fun hn=>absurd (nX hn) ne⟩⟩;have s14:=s13.trans s4;have il:=hi.lt;have jl:=hj.lt;obtain⟨r,_,hr,_⟩:=hj.split;obtain⟨vj,hvj⟩:∃v,xs[j]?=some v:=⟨_,Fy (by lia)⟩;obtain⟨r',hr',burj⟩:=aM pr hvj;rw[hr]at hr';cases hr';refine⟨_,rfl,_,rfl,_,rfl,a,xs,rfl,s14.tup hx,fun r1 H5 s5 h5=>?_⟩;rw[zZ (by lia)]at h5;have s15:=s14.trans s5;refine⟨_,rfl,_,rfl,a,_,_,_,rfl,rfl,s15.tup hx,az hvj,aF rfl,fun r2 hr2=>?_⟩;have s6:=ak.upd (o:=.tup [vj]) hr2;refine⟨r1,r2,_,_,rfl,rfl,s6.tup h5,SqT.of ae,Nat.le_of_lt (aD (by rw[FK];show _+1<=1000;lia)),fun r3 H7 s7 h7=>?_⟩;have s17:=s15.trans (s6.trans s7);have sp7:=sE.tk;obtain⟨ps,hps,pps⟩:=(hp2.tk (s3.trans (s4.trans (s5.trans (s6.trans s7)))).tk).bur;have lps:ps.length<=20:=by
   rw[Fx pps,jk hi hj,FK,GP]
   lia
  refine⟨_,rfl,r3,p,_,_,rfl,rfl,h7,hps,Nat.le_of_lt (aD (by rw[Fz,FK];show _+1+_<=1000;lia)),fun r4 H8 s8 h8=>?_⟩;have s18:=s17.trans s8;refine⟨_,rfl,_,rfl,_,_,rfl,rfl,_,rfl,a,xs,rfl,s18.tup hx,fun r5 H9 s9 h9=>?_⟩;rw[show gO xs (some ((j:Int)+1)) none=xs.drop (j+1)from zY (n:=j+1) (by lia)]at h9;refine⟨r4,r5,_,_,rfl,rfl,s9.tup h8,h9,Nat.le_of_lt (aD (by rw[Fz,Fz,FK,GP];show _+1+_+_<=1000;lia)),fun r6 H10 s10 h10=>?_⟩;have sA:=s18.trans (s9.trans s10);refine q r6 H10 sA ?_;rw[uN nd hi hj hr ne];have prA:=Paired.imp (fun _ _ z=>bS.tk sA.tk z) pr;exact bJ.of h10 (Paired.app (Paired.app (Paired.app (bG i prA).1 (.cons (burj.tk sA.tk) .nil)) (Paired.imp (fun _ _ z=>bS.tk (s8.trans (s9.trans s10)).tk z) pps)) (bG (j+1) prA).2)
def qt(K:Frag):Sp:=fun vs H Q _=>∃(a:Addr)(n h:Int)(R:cf)(rs:List (List Key)),vs=[.ref a,.int n,.int h]/\StrT K H a R/\R.length<=64/\(∀p∈R,∀r∈p.2,r∈rs)/\rs.length<=59/\(∀r∈rs,du r)/\(rs.map av).Nodup/\∀b T H',ak H H'->ml (R.map fun p=>dX n h p.2) T->bJ K H' b T->Q (.ref b) H'
variable(lZ:Df P w K mg base 3 "passed" ["strips","number","ahead"] (qt K))
theorem xv:aB ["strips","number","ahead"] ["strips","number","ahead"] (ao (top 25)):=by trivial
include B dh dO in
theorem xJ(T:Tx K mg "passed" (top 25) ["strips","number","ahead"]):Df P w K mg base 3 "passed" ["strips","number","ahead"] (qt K):=by
 refine T.df xv (by rintro _ _ _ _ ⟨a,n,h,R,rs,rfl,hT,hz,hsub,hrs,hib,nd,q⟩;rfl) ?_;rintro f _ A _ s H _ Q E hr ⟨a,n,h,R,rs,rfl,hT,hz,hsub,hrs,hib,nd,q⟩;refine⟨_,(aj (aE (aA dh hr (aa (bI ["strip"] [("number",1),("ahead",2)] (fb _ ["number","ahead"]) rfl (by rfl) rfl (by trivial) (by trivial) (aP (by rfl)) (b8 (by rfl)) (mC ⟨rfl,rfl⟩ (mC ⟨rfl,rfl⟩ mN)) (mC rfl (mC rfl mN)) (bu (by decide)) (eO (pv 0)) (fun _ _ _ _=>aK (i:=0) (show(["strip","number","ahead"]:List Str).Nodup by trivial) rfl (Or.inl rfl) (Or.inr rfl)) (fun _ _ _ _=>bz) (fun _ _ _ _=>(aA dO hr (aa (aJ (c7 (K:=K) rfl) (pv 0) af (fun _ _=>rfl)) (aa (pv 1) (aa (pv 2) ag)))))) ag)))),?_⟩;obtain⟨vs,ha,pr⟩:=hT;have lv:vs.length=R.length:=Fx pr;refine⟨_,rfl,a,rfl,⟨_,ha⟩,fun A1 hA1=>?_⟩;refine nM (K:=K) (a:=a) (xs:=vs) (fun i acc H2=>ak H H2/\H2 A1=some (.lst acc)/\Paired (qm K H2) acc ((R.take i).map fun p=>dX n h p.2)) ⟨ak.upd hA1,ae,.nil⟩ (fun i acc H2 _ ⟨e,_⟩=>e.tup ha) ?_ ?_
 ·rintro i y acc H2 hi ⟨s2,h2,pr2⟩;refine dD ?_;intro kq1 kr1;obtain⟨p,hp,r1,b,rfl,h1,hb⟩:=aM pr hi;have pin:=Fs hp;have h12:=s2.tup h1;refine⟨_,rfl,r1,_,_,_,rfl,rfl,h12,(az (j:=1) rfl),_,rfl,_,rfl,b,n,h,p.2,rfl,hb.tk s2.tk,fun r hr=>hib r (hsub p pin r hr),fun b3 H3 s3 hc3=>?_⟩;have lacc:acc.length<sizeLine:=by
   rw[Fx pr2,Fm,FK];exact aD (by lia)
  refine⟨s3 _ _ h2,lacc,?_,ae,?_⟩
  ·intro b5 o5 e5;rw[au (fun z=>by rw[z,hA1]at e5;cases e5)];exact s3 _ _ (s2 _ _ e5)
  ·rw[FJ,hp,F2,FN];have tk2:=TK.lst (o:=.lst (acc++[.ref b3])) (s3 _ _ h2);exact Paired.app (Paired.imp (fun _ _ z=>qm.tk tk2 (qm.tk s3.tk z)) pr2) (.cons (qm.tk tk2 ⟨b3,rfl,hc3⟩) .nil)
 ·rintro acc H2 ⟨s2,h2,pr2⟩;rw[lv,FU]at pr2;refine⟨A1,acc,_,rs,rfl,SqL.of h2,pr2,fun c hc r hr=>?_,hrs,hib,nd,fun b T H' s' hB hV=>q b T H' (s2.trans s') hB hV⟩;obtain⟨p,hp,rfl⟩:=Fp.mp hc;exact hsub p hp r (iG hr)
def jM(K:Frag):Sp:=fun vs H Q _=>∃(w h c:Nat),vs=[.int w,.int h,.int c]/\(0<w/\w<=8/\h<=8)/\c<2^(w*h)/\∀l ps H',H l=none->ak H H'->H' l=some (.lst (NV ps))->iy w h c ps->Q (.ref l) H'
variable(eZ:Df P w K mg base 3 "_law_pieces" ["_law_wide","_law_high","_law_ground"] (jM K))
theorem dv:aB ["_law_wide","_law_high","_law_ground","_law_found","_law_rest","_law_k","_law_one"] ["_law_wide","_law_high","_law_ground"] (ao (top 38)):=by trivial
include B aX g7 in
theorem p9(T:Tx K mg "_law_pieces" (top 38) ["_law_wide","_law_high","_law_ground"]):Df P w K mg base 3 "_law_pieces" ["_law_wide","_law_high","_law_ground"] (jM K):=by
 refine T.df dv (by rintro _ _ _ _ ⟨w,h,c,rfl,⟨hw,hw8,hh8⟩,hc,q⟩;rfl) ?_;rintro f _ A _ s H _ Q E hr ⟨w,h,c,rfl,⟨hw,hw8,hh8⟩,hc,q⟩;refine aN ?_;intro kX;refine ah 3 (aj (aE (pv 3))) ?_;intro kR3 pR3;refine ah 2 (ai (cu FZ rfl (bL (by rfl) B.range (aa (aq bZ (pv 0) (pv 1)) ag)) (aK (i:=5) dv.nd rfl (by trivial)) (aj (aV (eY (aA aX hr (aa (pv 4) (aa (pv 5) ag)))) (ai (aw (i:=6) dv.nd rfl (by trivial) (aA g7 hr (aa (pv 0) (aa (pv 1) (aa (pv 2) (aa (pv 5) ag)))))) (ai (dA (jW Ga GA Gz dY (pv 3) (aa (pv 6) ag))) (aj (aw (i:=4) dv.nd rfl (by trivial) (aq dM (pv 4) (pv 6)))))) aI))) pR3) ?_;intro kR2 pR2;refine ah 1 (ai (aw (i:=4) dv.nd rfl (by trivial) (pv 2)) pR2) ?_;intro kR1 pR1;refine⟨_,(ai (aw (i:=3) dv.nd rfl (by trivial) (dy ag)) pR1),?_⟩;have hwh:w*h<=64:=Nat.mul_le_mul hw8 hh8;have p64:2^(w*h)<=2^64:=Gf (by decide) hwh;have hc64:c<2^64:=FE hc p64;have e1:((w:Int)*(h:Int))=((w*h:Nat):Int):=by simp
 have e2:(((w:Int)*(h:Int))).toNat=w*h:=by rw[e1,Gg]
 refine⟨F1 _,fun l hl=>?_⟩;have s0:=ak.upd (o:=.lst []) hl;refine⟨_,rfl,_,rfl,_,rfl,_,_,rfl,rfl,.inl ⟨by lia,by lia⟩,_,rfl,by lia,by lia,?_⟩;rw[e2];refine gb (lo:=0) (n:=w*h)
  (fun i σ H2=>∃(r:Nat)(xs:List Nat)(o5 o6:Option V),σ=[some (.int w),some (.int h),some (.int c),some (.ref l),some (.int r),o5,o6]/\SX l (upd H l (.lst [])) H2/\H2 l=some (.lst (NV xs))/\xs.length<=i/\r<2^(w*h)/\gL w h c r/\Sub r c/\(∀j,j<i->r.testBit j=false)/\∀ps,iy w h r ps->iy w h c (xs++ps))
  ⟨c,[],none,none,rfl,SX.refl _ _,ae,Fv _,hc,fun _ _ _ _ e=>e,fun _ e=>e,fun j hj=>by omega,fun _ z=>z⟩ ?_ ?_
 ·rintro i σ H2 hi ⟨r,xs,o5,o6,rfl,s2,hl2,hxl,hr',hcl,hs,hlow,hx⟩;rw[show(0:Int)+(i:Int)=((i:Nat):Int) by omega];refine dB ?_;intro kD1;refine⟨_,rfl,_,rfl,r,i,rfl,by lia,_,rfl,?_⟩;refine bw (fun hb=>?_) (fun hb=>?_)
  ·have hr64:r<2^64:=FE hr' p64;have hr0:r≠0:=fun z=>by rw[z]at hb;simp at hb
   have eL:bW r=i:=jB (by lia) hb hlow;refine⟨_,rfl,_,rfl,_,rfl,_,rfl,w,h,c,i,rfl,⟨hw,hw8,hh8⟩,hc,hs i hb,fun p H3 hp s3=>?_⟩;have hpr:=hp.to_closed hcl hs hb;have hpr':cT w h r (bW r) p:=(by rw[eL];exact hpr);obtain⟨q1,q2,q3⟩:=px hr64 hr0 hpr';have hl3:=s3 _ _ hl2;refine⟨_,rfl,.inl ⟨rfl,_,SqL.of hl3⟩,_,rfl,l,_,_,rfl,rfl,hl3,?_,?_⟩
   ·exact aD (by rw[Fm];lia)
   refine⟨_,rfl,_,rfl,_,_,rfl,rfl,?_⟩;have es:(r:Int)-(p:Int)=((dif r p:Nat):Int):=by
    have:=BB (r:=r) (p:=p) fun j hj=>hpr.sub hj
    lia
   refine⟨dif r p,xs++[p],_,_,(by simp only[es];rfl),s2.trans ((SX.of s3).trans SX.set),(by rw[ae,gJ];rfl),(by rw[Fz,GC];lia),pq hr',pG hw hc hcl hs hp,v8 hs,fun j hj=>?_,fun ps z=>?_⟩
   ·rw[gX];rcases Nat.lt_or_ge j i with z|z
    ·rw[hlow j z];rfl
    ·have:j=i:=(by lia);subst this;rw[eL]at q3;rw[q3];simp
   ·rw[List.append_assoc];exact hx _ (.cons hr0 hpr' z)
  ·refine⟨r,xs,some (.int i),o6,rfl,s2,hl2,by lia,hr',hcl,hs,fun j hj=>?_,hx⟩;rcases Nat.lt_or_ge j i with z|z
   ·exact hlow j z
   ·have:j=i:=(by lia);subst this;simpa using hb
 ·rintro σ H2 ⟨r,xs,o5,o6,rfl,s2,hl2,hxl,hr',hcl,hs,hlow,hx⟩;have hr0:r=0:=BN fun j=>by
   constructor
   ·intro z;rw[hlow j (fS hr' z)]at z;cases z
   ·intro z;simp at z
  subst hr0;have:=hx [] .nil;rw[F3]at this;exact⟨_,rfl,q l xs H2 hl (SX.same hl s0 s2) hl2 this⟩
def gu(K:Frag):Sp:=fun vs H Q _=>∃(k:Nat)(c w:Int),vs=[.int k,.int c,.int w]/\k<=12/\∀l r H',ak H H'->H' l=some (.tup (r.map kV))->(∀x∈r,vt x=true)->du r->av r=se (k:Nat) c->Q (.ref l) H'
variable(bD:Df P w K mg base 3 "_law_make_burden" ["_law_k","_law_cell","_law_way"] (gu K))
theorem ck:aB ["_law_k","_law_cell","_law_way","_law_kind","_law_until","_law_holder"] ["_law_k","_law_cell","_law_way"] (ao (top 45)):=by trivial
include B cI aC eR bC in
theorem kh(T:Tx K mg "_law_make_burden" (top 45) ["_law_k","_law_cell","_law_way"]):Df P w K mg base 3 "_law_make_burden" ["_law_k","_law_cell","_law_way"] (gu K):=by
 refine T.df ck (by rintro _ _ _ _ ⟨k,c,w,rfl,hk,q⟩;rfl) ?_;rintro f _ A _ s H _ Q E hr ⟨k,c,w,rfl,hk,q⟩;refine aN ?_;intro kX;refine ah 4 (aj (aE (aR (aa (aA bC hr (aa (pv 0) (aa (pv 1) ag))) (aa (pv 3) (aa (pv 5) (aa (aq bh (aq bZ (pv 1) (aq bg (pv 0) af)) (aq bg (aq j7 af af) af)) (aa (pv 4) ag)))))))) ?_;intro kR4 pR4;refine ah 3 (ai (aw (i:=5) ck.nd rfl (by trivial) (aA cI hr (aa (aA aC hr (aa (pv 1) (aa (aq bg af (aq bZ af (pv 0))) (aa af ag)))) (aa (pv 2) ag)))) pR4) ?_;intro kR3 pR3;refine ah 2 (bF (aV (aG cN (pv 3) aS (aL _)) (aj (aw (i:=4) ck.nd rfl (by trivial) (aA eR hr (aa (pv 1) (aa (aq bg af (aq bZ af (pv 0))) (aa (pv 2) ag)))))) aI) pR3) ?_;intro kR2 pR2;refine ah 1 (ai (aw (i:=4) ck.nd rfl (by trivial) af) pR2) ?_;intro kR1 pR1;refine⟨_,(ai (aw (i:=3) ck.nd rfl (by trivial) (aJ bV (dy (aa aS (aa aS (aa aS (aa aS ag))))) (aA aC hr (aa (pv 1) (aa (aq bg af (aq bZ af (pv 0))) (aa af ag)))) (fun _ _=>rfl))) pR1),?_⟩;refine⟨aF rfl,fun l hl=>?_⟩;have s1:=ak.upd (o:=.lst [V.str (Str.ofString "debt"),V.str (Str.ofString "way"),V.str (Str.ofString "buy"),V.str (Str.ofString "note")]) hl;refine⟨_,rfl,_,rfl,_,_,rfl,rfl,.inl ⟨by decide,by decide⟩,_,_,rfl,rfl,c,50+3*k,4,rfl,by decide,by lia,fun j hj=>?_⟩;obtain⟨vk,mk,hk'⟩:=Dy (xs:=[V.str (Str.ofString "debt"),V.str (Str.ofString "way"),V.str (Str.ofString "buy"),V.str (Str.ofString "note")]) (i:=(j:Nat)) (by omega) (by show(j:Int)<4;lia);obtain⟨kd,rfl,k0⟩:∃kd,vk=.str kd/\PyData.canLay0 (.str kd)=true:=by
  simp only[FL,List.not_mem_nil,or_false]at mk;rcases mk with rfl|rfl|rfl|rfl
  ·exact⟨_,rfl,by decide+kernel⟩
  ·exact⟨_,rfl,by decide+kernel⟩
  ·exact⟨_,rfl,by decide+kernel⟩
  ·exact⟨_,rfl,by decide+kernel⟩
 refine⟨l,_,_,_,rfl,rfl,SqL.of ae,hk',?_⟩;generalize (upd H l (.lst [V.str (Str.ofString "debt"),V.str (Str.ofString "way"),V.str (Str.ofString "buy"),V.str (Str.ofString "note")]))=H1 at s1 ⊢;refine⟨fun σ' H'=>∃n:Int,σ'=[some (.int (k:Nat)),some (.int c),some (.int w),some (.str kd),some (.int n),none]/\ak H H',?_,?_⟩
 ·refine fU ?_;intro kD1;refine⟨_,rfl,rfl,_,rfl,?_⟩;refine bw (fun h1=>?_) (fun h1=>⟨0,rfl,s1⟩);refine⟨_,rfl,_,rfl,_,_,rfl,rfl,.inl ⟨by decide,by decide⟩,_,_,rfl,rfl,_,rfl,c,w,51+3*k,rfl,by lia,fun n H2 s2 _=>⟨n,rfl,s1.trans s2⟩⟩
 rintro σ' H2 ⟨u,rfl,s2⟩;refine⟨_,rfl,_,rfl,_,_,rfl,rfl,.inl ⟨by decide,by decide⟩,_,_,rfl,rfl,c,52+3*k,6,rfl,by decide,by lia,fun j hj=>?_⟩;refine⟨_,rfl,j,w,rfl,hj,?_⟩;have m0:=Gq (c*((k:Int)+1)) (show((10:Int)^(12:Int).toNat+1)≠0 by decide);refine⟨_,rfl,_,rfl,(k:Int),c,rfl,⟨by lia,by lia⟩,fun H3 s3=>?_⟩;obtain⟨n,en⟩:∃n,n=se (k:Nat) c:=⟨_,rfl⟩;rw[<-en];refine⟨_,rfl,_,rfl,_,rfl,_,rfl,_,_,rfl,rfl,_,_,rfl,rfl,.inr ⟨by lia,by lia⟩,_,_,rfl,rfl,⟨by decide,by decide,by decide⟩,_,_,rfl,rfl,_,_,rfl,rfl,(by show(0:Int)<_;decide),_,rfl,aF rfl,fun l4 hl4=>?_⟩;have s4:=ak.upd (o:=.tup [V.int n,V.str kd,V.str (ik w j),V.int (c*((k:Int)+1) % ((10:Int)^(12:Int).toNat+1)),V.int u]) hl4;refine q l4 [.inl n,.inr kd,.inr (ik w j),.inl (c*((k:Int)+1) % ((10:Int)^(12:Int).toNat+1)),.inl u] _ (s2.trans (s3.trans s4)) ae (fun x hx=>?_) ⟨_,_,_,_,_,rfl⟩ en;simp only[FL,List.not_mem_nil,or_false]at hx;rcases hx with rfl|rfl|rfl|rfl|rfl
 ·rfl
 ·exact k0
 ·exact(si hj).1.lay
 ·rfl
 ·rfl
def ia(K:Frag):Sp:=fun vs H Q _=>∃(m:Nat)(z w last:Int)(b:Addr)(ws:List V)(rs:List (List Key)),vs=[.int m,.int z,.ref b,.int w,.int last]/\m<2^64/\SqL K H b ws/\Paired (bS K H) ws rs/\rs.length=13/\∀v p H',ak H H'->PlE K H' v p->vU ((List.range 6).map (ik w)) rs p->((rs.map av).Nodup->∀q∈p.R,(q.2.map av).Nodup)->p.R.length<=2->p.g=m->p.last=last->Q v H'
variable(eG:Df P w K mg base 3 "_law_make_plot" ["_law_cells","_law_cell","_law_pool","_law_way","_law_last"] (ia K))
theorem cb:aB ["_law_cells","_law_cell","_law_pool","_law_way","_law_last","_law_one","_law_other","_law_mask","_law_columns","_law_k"] ["_law_cells","_law_cell","_law_pool","_law_way","_law_last"] (ao (top 48)):=by trivial
include B cG c9 aX dF bB aC in
theorem mF(T:Tx K mg "_law_make_plot" (top 48) ["_law_cells","_law_cell","_law_pool","_law_way","_law_last"]):Df P w K mg base 3 "_law_make_plot" ["_law_cells","_law_cell","_law_pool","_law_way","_law_last"] (ia K):=by
 refine T.df cb (by rintro _ _ _ _ ⟨m,z,w,last,b,ws,rs,rfl,hm,hb,pr,l13,q⟩;rfl) ?_;rintro f _ A _ s H _ Q E hr ⟨m,z,w,last,b,ws,rs,rfl,hm,hb,pr,l13,q⟩;have hu:=hr.units;refine aN ?_;intro kX;refine ah 5 (aj (aE (aR (aa (pv 0) (aa (aA dF hr (aa (pv 1) (aa (pv 3) ag))) (aa (aA bB hr (aa (pv 8) ag)) (aa (pv 4) ag))))))) ?_;intro kR5 pR5;refine ah 4 (ai (cu FZ rfl (bL (by rfl) B.range (aa af ag)) (aK (i:=9) cb.nd rfl (by trivial)) (aj (aV (eY (aA aX hr (aa (pv 0) (aa (pv 9) ag)))) (aj (iE (iq hr) (pv 8) (pv 9) (aJ bV (dy (aa (pv 5) (aa (pv 6) ag))) (bU mW (by rfl) B.int boot_int (aa (aA aX hr (aa (pv 7) (aa (pv 9) ag))) ag)) (fun _ _=>rfl)) rfl)) aI))) pR5) ?_;intro kR4 pR4;refine ah 3 (ai (aw (i:=8) cb.nd rfl (by trivial) jj) pR4) ?_;intro kR3 pR3;refine ah 2 (ai (aw (i:=7) cb.nd rfl (by trivial) (aq bZ (aA c9 hr (aa (aq b6 (pv 1) af) ag)) (bU mW (by rfl) B.int boot_int (aa (cY nG (aA aC hr (aa (pv 1) (aa af (aa af ag)))) af (aL _)) ag)))) pR3) ?_;intro kR2 pR2;refine ah 1 (ai (aw (i:=6) cb.nd rfl (by trivial) (aA cG hr (aa (aq bg (aq b6 (pv 1) af) af) (aa (pv 2) ag)))) pR2) ?_;intro kR1 pR1;refine⟨_,(ai (aw (i:=5) cb.nd rfl (by trivial) (aA cG hr (aa (pv 1) (aa (pv 2) ag)))) pR1),?_⟩;refine⟨_,rfl,_,rfl,z,b,ws,rs,rfl,hb,pr,l13,fun l1 C1 H1 s1 hc1 cl1 cs1 nd1=>?_⟩;refine⟨_,rfl,_,_,rfl,rfl,⟨by decide,by decide⟩,_,_,rfl,rfl,_,rfl,_,b,ws,rs,rfl,s1.seq hb,Paired.imp (fun _ _=>bS.tk s1.tk) pr,l13,fun l2 C2 H2 s2 hc2 cl2 cs2 nd2=>?_⟩;refine⟨_,rfl,_,_,rfl,rfl,⟨by decide,by decide⟩,_,rfl,fun r=>?_⟩;refine⟨_,rfl,z,90,3,rfl,by decide,by decide,fun j hj=>?_⟩;refine⟨_,_,rfl,rfl,.inr ⟨_,rfl,?_⟩⟩;obtain⟨M,eM⟩:∃M:Nat,((r:Nat):Int)*(if decide ((0:Int)<((j:Nat):Int))=true then 1 else 0)=(M:Nat):=by
  split
  ·exact⟨r,by lia⟩
  ·exact⟨0,by lia⟩
 refine⟨_,_,rfl,rfl,.inr ⟨by split<;>decide,by split<;>decide⟩,?_⟩;dsimp only;rw[eM];clear eM;refine fun d hd=>?_;have s3:=s1.trans s2;have hc1':=hc1.tk s2.tk;have sd:∀o:HO,ak H2 (upd H2 d o):=fun o=>ak.upd hd;let gk:Nat->Nat->Option Col:=fun k i=>if i<k/\m.testBit i=true then some (if M.testBit i=true then C2 else C1)else none
 refine⟨64,rfl,by decide,by decide,gb (lo:=0) (fun k σ H3=>∃(o9:Option V)(kvs:List (Key×V)),σ=[some (.int m),some (.int z),some (.ref b),some (.int w),some (.int last),some (.ref l1),some (.ref l2),some (.int (M:Nat)),some (.ref d),o9]/\ak H2 H3/\H3 d=some (.dK kvs)/\GD K H3 kvs (gk k)/\(kvs.map fun q=>kV q.1)=NV ((List.range k).filter m.testBit)) ?_ ?_ ?_⟩
 ·refine⟨none,[],rfl,sd _,ae,?_,rfl⟩;have e:gk 0=fun _=>none:=funext fun i=>FA (fun z=>absurd z.1 (Nat.not_lt_zero _));rw[e];exact GD.nil
 ·rintro k σ H3 hk ⟨o9,kvs,rfl,s4,hd3,gd,ek⟩;rw[show(0:Int)+(k:Int)=((k:Nat):Int) by omega];refine dB ?_;intro kD1;refine⟨_,rfl,_,rfl,m,k,rfl,by lia,_,rfl,?_⟩;refine bw (fun h1=>?_) (fun h1=>?_)
  ·have lk:kvs.length<=64:=by
    have:=congrArg List.length ek;rw[Fm,Fm]at this;rw[this];exact FW (GV _ _) (by rw[GJ];omega)
   have v0:eK kvs (.inl (k:Int))=none:=by
    rcases gd k with y|⟨_,c,_,e,_⟩
    ·exact y.1
    ·have e':(if k<k/\m.testBit k=true then some (if M.testBit k=true then C2 else C1)else none)=some c:=e;rw[FA (fun y=>G3 _ y.1)]at e';cases e'
   have hat:atI [V.ref l1,V.ref l2] (if M.testBit k=true then 1 else 0)=some (.ref (if M.testBit k=true then l2 else l1)):=by split<;>rfl
   refine⟨_,rfl,_,rfl,aF rfl,fun l5 hl5=>?_⟩;have s5:=ak.upd (o:=.lst [V.ref l1,V.ref l2]) hl5;have hd5:=s5 _ _ hd3;refine⟨_,rfl,_,rfl,M,k,rfl,by omega,.inr ⟨_,rfl,l5,_,_,_,rfl,rfl,SqL.of ae,hat,?_⟩⟩;refine⟨_,rfl,_,rfl,d,_,rfl,pN.k (k:=.inl (k:Int)) hd5 (Nat.lt_of_le_of_lt lk (aD (by lia))),?_⟩;have tk6:=TK.dk (o:=.dK (putK kvs (.inl (k:Int)) (.ref (if M.testBit k=true then l2 else l1)))) hd5;have tk7:TK H2 (upd (upd H3 l5 (.lst [V.ref l1,V.ref l2])) d (.dK (putK kvs (.inl (k:Int)) (.ref (if M.testBit k=true then l2 else l1))))):=(s4.trans s5).tk.trans tk6;have hc:∀{HX:Hp},TK H2 HX->bJ K HX (if M.testBit k=true then l2 else l1) (if M.testBit k=true then C2 else C1):=fun {HX} tx=>by
    split
    ·exact hc2.tk tx
    ·exact hc1'.tk tx
   refine⟨_,_,rfl,?_,ae,?_,?_⟩
   ·intro a o e;rw[au (fun y=>by rw[y,hd]at e;cases e)];exact s5 _ _ (s4 _ _ e)
   ·have e:gk (k+1)=fun i=>if i=k then some (if M.testBit k=true then C2 else C1)else gk k i:=funext fun i=>by
     show(if i<k+1/\m.testBit i=true then _ else _)=(if i=k then _ else if i<k/\m.testBit i=true then _ else _);by_cases y:i=k
     ·subst y;rw[FH ⟨by omega,h1⟩,FH rfl]
     ·have:(i<k+1/\m.testBit i=true)<->(i<k/\m.testBit i=true):=⟨fun x=>⟨by lia,x.2⟩,fun x=>⟨by lia,x.2⟩⟩;rw[FA y];simp only[this]
    rw[e];exact GD.put ((gd.tk s5.tk).tk tk6) (hc tk7)
   ·rw[tP _ v0,FN,ek,List.range_succ,Gh,gJ];simp[h1,kV]
  ·refine⟨_,kvs,rfl,s4,hd3,?_,?_⟩
   ·have e:gk (k+1)=gk k:=funext fun i=>by
     show(if i<k+1/\m.testBit i=true then _ else _)=(if i<k/\m.testBit i=true then _ else _);by_cases z:i=k
     ·subst z;rw[FA (fun y=>h1 y.2),FA (fun y=>h1 y.2)]
     ·have:(i<k+1/\m.testBit i=true)<->(i<k/\m.testBit i=true):=⟨fun y=>⟨by lia,y.2⟩,fun y=>⟨by lia,y.2⟩⟩;simp only[this]
    rw[e];exact gd
   ·rw[List.range_succ,Gh,gJ,ek];simp[h1]
 ·rintro σ H3 ⟨o9,kvs,rfl,s4,hd3,gd,ek⟩;refine⟨_,rfl,_,rfl,_,rfl,z,w,rfl,fun ls S H4 s5 hS gS=>?_⟩;have gi:∀i,(gk 64 i).isSome=true<->i<64/\m.testBit i=true:=fun i=>by
   show(if i<64/\m.testBit i=true then _ else none).isSome=true<->_;split
   ·rename_i y;exact⟨fun _=>y,fun _=>rfl⟩
   ·rename_i y;exact⟨(fun x=>by cases x),(fun x=>absurd x y)⟩
  refine⟨_,rfl,d,kvs,gk 64,(List.range 64).filter m.testBit,rfl,s5 _ _ hd3,gd.tk s5.tk,ek,List.Pairwise.filter _ List.pairwise_lt_range,FW (GV _ _) (by rw[GJ];lia),fun i=>by rw[gi,List.mem_filter,F9],fun i hi=>F9.mp (List.mem_filter.mp hi).1,fun lr R H5 s6 hR iR=>?_⟩;refine⟨_,rfl,aF rfl,fun l hl=>?_⟩;have s7:=ak.upd (o:=.tup [.int (m:Nat),.ref ls,.ref lr,.int last]) hl;refine q (.ref l) ⟨m,S,R,last⟩ _ (s3.trans (s4.trans (s5.trans (s6.trans s7)))) ⟨l,ls,lr,rfl,SqT.of ae,hS.tk (s6.trans s7).tk,hR.tk s7.tk⟩ ⟨hm,gS,gk 64,iR,fun i hi=>?_,fun i c e=>?_⟩ (fun nd q hq=>?_) (AI (C1:=C1) (C2:=C2) iR fun i c e=>?_) rfl rfl
  ·rw[gi];exact⟨fun y=>y.2,fun y=>⟨hi,y⟩⟩
  ·have e':(if i<64/\m.testBit i=true then some (if M.testBit i=true then C2 else C1)else none)=some c:=e;split at e'
   ·cases e';split
    ·exact⟨cl2,cs2⟩
    ·exact⟨cl1,cs1⟩
   ·exact nomatch e'
  ·obtain⟨i,_,e⟩:=kI iR hq;have e':(if i<64/\m.testBit i=true then some (if M.testBit i=true then C2 else C1)else none)=some q.2:=e;split at e'
   ·rw[<-F0 e'];split
    ·exact nd2 nd
    ·exact nd1 nd
   ·exact nomatch e'
  ·have e':(if i<64/\m.testBit i=true then some (if M.testBit i=true then C2 else C1)else none)=some c:=e;split at e'
   ·cases e';split
    ·exact .inr rfl
    ·exact .inl rfl
   ·exact nomatch e'
def ni(K:Frag):Sp:=fun vs H Q _=>∃(a:Addr)(ns:List Int)(w:Int),vs=[.ref a,.int w]/\SqL K H a (ns.map V.int)/\∀(l sg:Addr)(num since:Int)(ss:List Str) H',ak H H'->SqT K H' l [.int num,.int since,.ref sg]->SqT K H' sg (SV ss)->(∀x∈ss,PyData.canLay0 (.str x)=true)->Q (.ref l) H'
variable(iN:Df P w K mg base 3 "_law_head" ["_law_script","_law_way"] (ni K))
theorem jc:aB ["_law_script","_law_way","_law_seed","_law_cell"] ["_law_script","_law_way"] (ao (top 53)):=by trivial
include B aH bC eR dE in
theorem ud(T:Tx K mg "_law_head" (top 53) ["_law_script","_law_way"]):Df P w K mg base 3 "_law_head" ["_law_script","_law_way"] (ni K):=by refine T.df jc (by rintro _ _ _ _ ⟨a,ns,w,rfl,hS,q⟩;rfl) ?_;rintro f _ A _ s H _ Q E hr ⟨a,ns,w,rfl,hS,q⟩;refine aN ?_;intro kX;refine ah 2 (aj (aE (aR (aa (aA bC hr (aa af (aa (pv 2) ag))) (aa (aA eR hr (aa (pv 3) (aa af (aa (pv 1) ag)))) (aa (aA dE hr (aa (pv 3) (aa (pv 1) ag))) ag)))))) ?_;intro kR2 pR2;refine ah 1 (ai (aw (i:=3) jc.nd rfl (by trivial) (aA aH hr (aa (pv 0) (aa af ag)))) pR2) ?_;intro kR1 pR1;refine⟨_,(ai (aw (i:=2) jc.nd rfl (by trivial) (aA aH hr (aa (pv 0) (aa af ag)))) pR1),?_⟩;refine⟨_,rfl,a,ns,2,rfl,hS,?_⟩;refine⟨_,rfl,a,ns,3,rfl,hS,?_⟩;refine⟨_,rfl,20,_,rfl,⟨by decide,by decide⟩,fun H1 s1=>?_⟩;refine⟨_,rfl,_,rfl,_,w,1,rfl,by decide,fun n H2 s2 _=>?_⟩;refine⟨_,rfl,_,rfl,_,w,rfl,fun l ss H3 s3 hs ls=>⟨aF rfl,fun t ht=>?_⟩⟩;have s4:=ak.upd (o:=.tup [.int (se 20 (ns.getD 2 0)),.int n,.ref l]) ht;exact q t l _ n ss _ (s1.trans (s2.trans (s3.trans s4))) (SqT.of ae) (s4.tup hs) ls
def iS(K:Frag):Sp:=fun vs H Q _=>∃(lw lp sg:Addr)(kd:V)(num since n:Int)(c:Nat)(ss:List Str)(xs:List V)(ps:List Plt)(rs:List (List Key)),vs=[.ref lw,.ref lp]/\SqT K H lw [kd,.int num,.int since,.ref sg,.int c,.int n]/\SqT K H sg (SV ss)/\(∀x∈ss,PyData.canLay0 (.str x)=true)/\SqL K H lp xs/\Paired (PlE K H) xs ps/\(∀p∈ps,PlG rs p)/\c<=64/\∀o v H',ak H H'->cK ps c n num ss o->IsD K H' (outD o) v->Q v H'
variable(e8:Df P w K mg base 3 "_law_lift_due" ["_law_row","_law_plots"] (iS K))
theorem dq:aB ["_law_row","_law_plots","_law_plot","_law_some_here","_law_columns","_law_k"] ["_law_row","_law_plots"] (ao (top 61)):=by trivial
include B bx cJ de aZ in
theorem nU(T:Tx K mg "_law_lift_due" (top 61) ["_law_row","_law_plots"]):Df P w K mg base 3 "_law_lift_due" ["_law_row","_law_plots"] (iS K):=by
 refine T.df dq (by rintro _ _ _ _ ⟨lw,lp,sg,kd,num,since,n,c,ss,xs,ps,rs,rfl,hw,hs,ls,hl,pp,hG,hc,q⟩;rfl) ?_;rintro f _ A _ s H _ Q E hr ⟨lw,lp,sg,kd,num,since,n,c,ss,xs,ps,rs,rfl,hw,hs,ls,hl,pp,hG,hc,q⟩;have hu:=hr.units;refine aN ?_;intro kX;refine ah 7 (aj (aE (aA de hr (aa (pv 2) (aa (pv 4) (aa (aJ aO (pv 0) af (fun _ _=>rfl)) ag)))))) ?_;intro kR7 pR7;refine ah 6 (ai (cu FZ rfl (cX (aY (LT.kA rfl) (by rfl) B.sorted (by trivial) (aa (pv 4) ag))) (aK (i:=5) dq.nd rfl (by trivial)) (aj (iE (iq hr) (pv 4) (pv 5) (bU b9 (by rfl) B.tuple boot_tuple (aa (bI ["_law_burden"] [("_law_row",0)] (fb _ ["_law_row"]) rfl (by rfl) rfl (by trivial) (by trivial) (aP (by rfl)) (b8 (by rfl)) (mC ⟨rfl,rfl⟩ mN) (mC rfl mN) (bu (by decide)) (eO (jz (iq hr) (pv 4) (pv 5) (fun _ _=>rfl))) (fun _ _ _ _=>aK (i:=0) (show(["_law_burden","_law_row"]:List Str).Nodup by trivial) rfl (Or.inl rfl) (Or.inr rfl)) (fun _ _ _ _=>ji (aG qE (aJ (c7 (K:=K) rfl) (pv 0) af (fun _ _=>rfl)) (aJ (c7 (K:=K) rfl) (pv 1) af (fun _ _=>rfl)) (aL _))) (fun _ _ _ _=>(pv 0))) ag)) rfl))) pR7) ?_;intro kR6 pR6;refine ah 5 (ai (aw (i:=4) dq.nd rfl (by trivial) (aA cJ hr (aa (pv 2) ag))) pR6) ?_;intro kR5 pR5;refine ah 4 (ai (aV (aG (eV hu) (aJ aO (aJ bV (pv 3) af (fun _ _=>rfl)) af (fun _ _=>rfl)) (aJ aO (pv 0) af (fun _ _=>rfl)) (by with_unfolding_all rfl)) (aj (aE (aR (aa aS (aa aS (aa (aJ aO (aJ bV (pv 3) af (fun _ _=>rfl)) af (fun _ _=>rfl)) ag)))))) aI) pR5) ?_;intro kR4 pR4;refine ah 3 (ai (aV (aG (rN hu) (pv 3) (dy ag) (aL _)) (aj (aE (aR (aa aS (aa aS (aa aS ag)))))) aI) pR4) ?_;intro kR3 pR3;refine ah 2 (ai (jx (i:=3) dq.nd rfl (by trivial) ["_law_burden"] [("_law_row",0)] (fb _ ["_law_row"]) rfl (by rfl) rfl (by trivial) (by trivial) (aP (by rfl)) (b8 (by rfl)) (mC ⟨rfl,rfl⟩ mN) (mC rfl mN) (bu (by decide)) (cX (aA aZ hr (aa (pv 2) ag))) (fun _ _ _ _=>aK (i:=0) (show(["_law_burden","_law_row"]:List Str).Nodup by trivial) rfl (Or.inl rfl) (Or.inr rfl)) (fun _ _ _ _=>ji (aG cN (aJ (c7 (K:=K) rfl) (pv 0) af (fun _ _=>rfl)) (aJ (c7 (K:=K) rfl) (pv 1) af (fun _ _=>rfl)) (aL _))) (fun _ _ _ _=>(pv 0))) pR3) ?_;intro kR2 pR2;refine ah 1 (ai (aV (aG hJ (pv 2) cH (aL _)) (aj (aE (aR (aa aS (aa aS (aa aS ag)))))) aI) pR2) ?_;intro kR1 pR1;refine⟨_,(ai (aw (i:=2) dq.nd rfl (by trivial) (aA bx hr (aa (pv 1) (aa (aJ aO (pv 0) af (fun _ _=>rfl)) ag)))) pR1),?_⟩;refine⟨_,rfl,_,rfl,lw,_,_,_,rfl,rfl,hw,az (j:=4) rfl,lp,xs,_,c,rfl,.inl hl,oH pp,hc,?_⟩;rcases ju (c:=c) pp with⟨e,efn⟩|⟨v,p,ev,nn,hfd,hp,mp⟩
 ·rw[e];exact⟨_,rfl,rfl,_,rfl,ip ⟨aF rfl,fun t ht=>q (.falls "waste" "") _ _ (ak.upd ht) (.waste efn) (.tup (SqT.of ae) (.cons (.str _) (.cons (.str _) (.cons (.str _) .nil))))⟩⟩
 rw[ev];have G:=hG p mp;obtain⟨f,hf,_⟩:=G.st;obtain⟨l,l1',lr,rfl,p1,p2,p3⟩:=id hp;refine⟨_,rfl,rfl,_,rfl,fM ?_⟩;refine⟨_,rfl,_,p,rs,rfl,hp,G.nm,fun la ys T H1 s1 hla py hB=>?_⟩;have onT:∀r,r∈T<->OnR p.R r:=fun r=>by
  rw[hB.mem];constructor
  ·rintro⟨c',hc',hr⟩;obtain⟨q',hq',rfl⟩:=Fp.mp hc';exact⟨q',hq',hr⟩
  ·rintro⟨q',hq',hr⟩;exact⟨_,Fp.mpr ⟨q',hq',rfl⟩,hr⟩
 have bT:∀r∈T,du r:=fun r hr=>by obtain⟨q',hq',hr'⟩:=(onT r).mp hr;exact G.nm.bur r (G.nm.sub q' hq' r hr')
 have lT:T.length<=59:=vN hB (fun c' hc' r hr=>by
  obtain⟨q',hq',rfl⟩:=Fp.mp hc'
  exact G.nm.sub q' hq' r hr) G.nm.l59
 have lyT:=Fx py;refine⟨la,rfl,⟨_,hla⟩,fun A hA=>?_⟩;have sA:∀o:HO,ak H1 (upd H1 A o):=fun o=>ak.upd hA;refine qN (K:=K) (a:=la) (xs:=ys) (fun i acc H2=>H2=upd H1 A (.lst acc)/\Paired (bS K H1) acc ((T.take i).filter fun r=>decide (av r=n))) ⟨rfl,.nil⟩ (fun i acc H2 _ ⟨e,_⟩=>by rw[e];exact(sA _).seq hla) ?_ ?_
 ·rintro i y acc H2 hi ⟨rfl,pa⟩;refine dD ?_;intro kq1 kr1;obtain⟨r,hr,bur⟩:=aM py hi;obtain⟨lay,ab,rfl,ha⟩:=id bur;obtain⟨nn',k,x,m,u,er⟩:=bT r (Fs hr);have en:av r=nn':=by rw[er];rfl
  rw[er]at ha;have tk1:T.take (i+1)=T.take i++[r]:=by rw[FJ,hr];rfl
  have i59:i<ys.length:=(FD.mp hi).1;refine⟨_,rfl,ab,_,_,_,rfl,rfl,(sA _).tup ha,az (j:=0) rfl,_,rfl,lw,_,_,_,rfl,rfl,(s1.trans (sA _)).tup hw,az (j:=5) rfl,rfl,_,rfl,?_⟩;refine bw (fun z=>?_) (fun z=>?_)
  ·have z':av r=n:=(by rw[en];exact veq.mp z);refine⟨_,rfl,ae,?_,by rw[bc],?_⟩
   ·have l1:=Fx pa;have l2:((T.take i).filter fun r=>decide (av r=n)).length<=i:=FW (GV _ _) (by rw[FK];lia);exact aD (by lia)
   ·rw[tk1,Gh,List.filter_cons_of_pos (by simpa using z')];exact Paired.app pa (.cons bur .nil)
  ·have z':¬av r=n:=fun w=>z (veq.mpr (by rw[<-en];exact w));refine⟨rfl,?_⟩;rw[tk1,Gh,List.filter_cons_of_neg (by simpa using z')];simpa using pa
 rintro acc H2 ⟨rfl,pa⟩;rw[lyT,FU]at pa;have s2:=s1.trans (sA (.lst acc));have hA2:(upd H1 A (.lst acc)) A=some (.lst acc):=ae;replace pa:=Paired.imp (fun _ _ y=>bS.tk (sA (.lst acc)).tk y) pa;generalize (upd H1 A (.lst acc))=H2 at s2 hA2 pa ⊢;clear py hla sA hA;refine⟨_,rfl,aF rfl,fun e0 he0=>?_⟩;have s3:=s2.trans (ak.upd (o:=.lst []) he0);have hA3:=(ak.upd (o:=.lst []) he0) _ _ hA2;have he3:(upd H2 e0 (.lst [])) e0=some (.lst []):=ae;replace pa:=Paired.imp (fun _ _ y=>bS.tk (ak.upd (o:=.lst []) he0).tk y) pa;generalize (upd H2 e0 (.lst []))=H3 at s3 hA3 he3 pa ⊢;rcases tS (n:=n) hB.so with⟨eT,hno⟩|⟨r,rin,hr,eT⟩
 ·rw[eT]at pa;cases pa;refine⟨.list [],.list [],.lst (SqL.of hA3) .nil,.lst (SqL.of he3) .nil,rfl,rfl,FF rfl,_,rfl,ip ?_⟩;exact⟨aF rfl,fun t ht=>q (.falls "burden" "") _ _ (s3.trans (ak.upd ht)) (.burden p hfd fun r hr=>hno r ((onT r).mpr hr)) (.tup (SqT.of ae) (.cons (.str _) (.cons (.str _) (.cons (.str _) .nil))))⟩
 rw[eT]at pa;obtain⟨vb,rfl,bur⟩:∃vb,acc=[vb]/\bS K H3 vb r:=by
  cases pa with
  |cons a t=>cases t;exact⟨_,rfl,a⟩
 obtain⟨bd1,bd2⟩:=BM bur;refine⟨.list [jK r],.list [],.lst (SqL.of hA3) (.cons bd1 .nil),.lst (SqL.of he3) .nil,(by show((jK r).canLay0&&true)=true;rw[bd2];rfl),rfl,FF rfl,_,rfl,fM ?_⟩;have on:=(onT r).mp rin;obtain⟨ab,zs,rfl,hb,hat,lh⟩:=iP (bT r rin) bur;refine⟨_,rfl,A,_,_,_,rfl,rfl,SqL.of hA3,az (j:=0) rfl,ab,zs,_,_,rfl,rfl,hb,hat,_,rfl,lw,_,_,_,rfl,rfl,s3.tup hw,az (j:=3) rfl,.str (cz r),ss.map PyData.str,.str _,.inr (.tup (s3.tup hs) (jD ss)),lh,oZ ls,FF rfl,_,rfl,?_⟩;rw[pI];refine bw (fun h2=>?_) (fun h2=>?_)
 ·have h2':cz r∉ss:=by simpa using h2
  exact⟨_,rfl,A,_,_,_,rfl,rfl,SqL.of hA3,az (j:=0) rfl,ab,zs,_,_,rfl,rfl,hb,hat,aF rfl,fun t ht=>q (.falls "sign" (cz r)) _ _ (s3.trans (ak.upd ht)) (.sign p r hfd on hr h2') (.tup (SqT.of ae) (.cons (.str _) (.cons (.str _) (.cons (.str _) .nil))))⟩
 have hin:cz r∈ss:=by simpa using h2
 have hf':=wU hf;refine⟨_,rfl,_,p,f64 f,rfl,hp.tk s3.tk,hf',wV f,fun d kvs ks H4 s4 fd hd gd ek nk mk k64=>?_⟩;have s34:=s3.trans s4;have lk:ks.length<=64:=by have:=Gb (nk.imp F4) (l₂:=List.range 64) fun x hx=>F9.mpr (k64 x hx);rwa[GJ]at this
 have fdH:H d=none:=s3.free fd;clear he3 he0 s2 hA2 bur;refine⟨_,rfl,d,kvs,ks.map (fun k:Nat=>(k:Int)),rfl,.inl hd,by rw[ek,GB];rfl,by rw[Fm];lia,GI.mpr (nk.imp fun h=>by lia),fun l4 ns' hl4 pm so=>?_⟩
 have nn':ns'.Nodup:=(pm.nodup_iff).mpr (by
  rw[List.Nodup,GI]
  exact nk.imp fun h e=>by lia)
 have mem':∀z∈ns',∃k:Nat,z=(k:Int)/\k∈ks:=fun z hz=>by obtain⟨k,hk,e⟩:=Fp.mp (pm.mem_iff.mp hz);exact⟨k,e.symm,hk⟩
 have memk:∀k:Nat,k∈ks->(k:Int)∈ns':=fun k hk=>pm.mem_iff.mpr (Fp.mpr ⟨k,hk,rfl⟩);have s5:=s34.trans (ak.upd (o:=.lst (ns'.map V.int)) hl4);have h5l:(upd H4 l4 (.lst (ns'.map V.int))) l4=some (.lst (ns'.map V.int)):=ae;have hd5:=(ak.upd (o:=.lst (ns'.map V.int)) hl4) _ _ hd;have gd5:=gd.tk (ak.upd (o:=.lst (ns'.map V.int)) hl4).tk;generalize (upd H4 l4 (.lst (ns'.map V.int)))=H5 at s5 h5l hd5 gd5 ⊢;have n4:l4≠d:=fun e=>by rw[e,hd5]at h5l;cases h5l
 refine⟨l4,rfl,⟨_,SqL.of h5l⟩,d9 (K:=K) (a:=l4) (xs:=ns'.map V.int) (fun i σ H6=>∃(o5:Option V)(kvs':List (Key×V)),σ=[some (.ref lw),some (.ref lp),some (.ref l),some (.ref A),some (.ref d),o5]/\ak H H6/\TK H5 H6/\H6 l4=some (.lst (ns'.map V.int))/\H6 d=some (.dK kvs')/\GD K H6 kvs' (fun x=>if(x:Int)∈ns'.take i then(f64 f x).map (wo n)else f64 f x)/\(kvs'.map fun q=>kV q.1)=NV ks) ⟨none,kvs,rfl,s5,(ak.refl _).tk,h5l,hd5,?_,ek⟩ (fun i σ H6 _ hPz=>hPz.elim fun _ hPz=>hPz.elim fun _ hPz=>(fun e=>SqL.of e) (hPz.2.2.2.1)) ?_ ?_⟩
 ·have e:(fun x:Nat=>if(x:Int)∈ns'.take 0 then(f64 f x).map (wo n)else f64 f x)=f64 f:=funext fun x=>FA (fun z=>nomatch z);rw[e];exact gd5
 ·rintro i y σ H6 hi ⟨o5,kvs',rfl,s6,tk6,hl6,hd6,gd6,ek6⟩;refine dB ?_;intro kD2;obtain⟨z,hz,rfl⟩:∃z,ns'[i]?=some z/\y=.int z:=by
   rw[FO]at hi;cases e:ns'[i]? with
   |none=>rw[e]at hi;cases hi
   |some z=>rw[e]at hi;cases hi;exact⟨z,rfl,rfl⟩
  obtain⟨k,rfl,kin⟩:=mem' z (Fs hz);have nin:¬(k:Int)∈ns'.take i:=fun y=>by have nd:=nn';rw[<-Gs i ns',GY]at nd;exact nd.2.2 _ y _ (by rw[iK hz];exact Fw ..) rfl
  have tk1:ns'.take (i+1)=ns'.take i++[(k:Int)]:=by rw[FJ,hz];rfl
  rcases gd6 k with⟨_,e⟩|⟨b,c',ev',ec,hcv⟩
  ·have e':(if(k:Int)∈ns'.take i then(f64 f k).map (wo n)else f64 f k)=none:=e;rw[FA nin]at e';have:=(mk k).mp kin;rw[e']at this;cases this
  have ec':f64 f k=some c':=by have e':(if(k:Int)∈ns'.take i then(f64 f k).map (wo n)else f64 f k)=some c':=ec;rwa[FA nin]at e'
  have good:GoodC c':=by obtain⟨q',hq',e2⟩:=Fp.mp (hf'.all k c' (k64 k kin) ec');rw[<-e2];exact G.nm.good q' hq'
  have dg:=pP.k (k:=.inl (k:Int)) hd6;rw[ev']at dg;obtain⟨zs2,hz2,pz2⟩:=hcv.bur;have lz:=Fx pz2;refine⟨_,rfl,_,rfl,d,_,rfl,dg,b,rfl,⟨_,hz2⟩,fun A2 hA2=>?_⟩;have sB:∀o:HO,ak H6 (upd H6 A2 o):=fun o=>ak.upd hA2;refine nM (K:=K) (a:=b) (xs:=zs2) (fun i acc H7=>H7=upd H6 A2 (.lst acc)/\Paired (bS K H6) acc (wo n (c'.take i))) ⟨rfl,.nil⟩ (fun i acc H7 _ ⟨e,_⟩=>by rw[e];exact(sB _).tup hz2) ?_ ?_
  ·rintro j y acc H7 hj ⟨rfl,pa'⟩;refine dD ?_;intro kq3 kr3;obtain⟨r',hr',bur'⟩:=aM pz2 hj;obtain⟨lay',ab',rfl,ha'⟩:=id bur';obtain⟨nn2,k2,x2,m2,u2,er⟩:=good.1 r' (Fs hr');have en:av r'=nn2:=(by rw[er];rfl);rw[er]at ha';have tk2:c'.take (j+1)=c'.take j++[r']:=(by rw[FJ,hr'];rfl);have jl:j<zs2.length:=(FD.mp hj).1;have g20:=good.2.2;refine⟨_,rfl,ab',_,_,_,rfl,rfl,(sB _).tup ha',az (j:=0) rfl,_,rfl,lw,_,_,_,rfl,rfl,(s6.trans (sB _)).tup hw,az (j:=5) rfl,rfl,_,rfl,?_⟩;refine bw (fun z=>?_) (fun z=>?_)
   ·have z':av r'≠n:=fun w=>by
     rw[en]at w;have z2:kV (.inl nn2)≠V.int n:=(by simpa using z);exact z2 (by rw[w];rfl)
    refine⟨_,rfl,ae,?_,by rw[bc],?_⟩
    ·have l1:=Fx pa';have l2:(wo n (c'.take j)).length<=j:=FW (GV _ _) (by rw[FK];lia);exact aD (by lia)
    ·have:wo n (c'.take (j+1))=wo n (c'.take j)++[r']:=by
      unfold wo;rw[tk2,Gh,List.filter_cons_of_pos (by simpa using z')];rfl
     rw[this];exact Paired.app pa' (.cons bur' .nil)
   ·have z':av r'=n:=by
     have z2:kV (.inl nn2)=V.int n:=(by simpa using z);rw[en];exact V.int.inj z2
    refine⟨rfl,?_⟩;have:wo n (c'.take (j+1))=wo n (c'.take j):=by unfold wo;rw[tk2,Gh,List.filter_cons_of_neg (by simpa using z')];simp
    rw[this];exact pa'
  rintro acc H7 ⟨rfl,pa'⟩;rw[lz,FU]at pa';refine⟨A2,_,rfl,.inl ⟨SqL.of ae,fun t ht=>?_⟩⟩;have s7:=(sB (.lst acc)).trans (ak.upd (o:=.tup acc) ht);have hd7:=s7 _ _ hd6;have hl7:=s7 _ _ hl6;have ht7:(upd (upd H6 A2 (.lst acc)) t (.tup acc)) t=some (.tup acc):=ae;have gd7:=gd6.tk s7.tk;have pa7:=Paired.imp (fun _ _ y=>bS.tk s7.tk y) pa';have tk7:=tk6.trans s7.tk;have s67:=s6.trans s7;generalize (upd (upd H6 A2 (.lst acc)) t (.tup acc))=H7 at s7 hd7 hl7 ht7 gd7 pa7 tk7 s67 ⊢;have lkv:kvs'.length<=64:=by
   have:=congrArg List.length ek6;rw[Fm,Fm]at this
   lia
  refine⟨_,rfl,_,rfl,d,_,rfl,pN.k (k:=.inl (k:Int)) hd7 (aD (by lia)),?_⟩;have tk8:=TK.dk (o:=.dK (putK kvs' (.inl (k:Int)) (.ref t))) hd7;refine⟨_,putK kvs' (.inl (k:Int)) (.ref t),rfl,ak.set fdH s67,tk7.trans tk8,by rw[au n4];exact hl7,ae,?_,?_⟩
  ·have e:(fun x:Nat=>if(x:Int)∈ns'.take (i+1)then(f64 f x).map (wo n)else f64 f x)=fun x=>if x=k then some (wo n c')else(fun x:Nat=>if(x:Int)∈ns'.take i then(f64 f x).map (wo n)else f64 f x) x:=funext fun x=>by
    show(if(x:Int)∈ns'.take (i+1)then(f64 f x).map (wo n)else f64 f x)=if x=k then some (wo n c')else if(x:Int)∈ns'.take i then(f64 f x).map (wo n)else f64 f x
    by_cases y:x=k
    ·subst y;rw[FH (by rw[tk1];exact FX _ (Fq.mpr rfl)),FH rfl,ec'];rfl
    ·have:(x:Int)∈ns'.take (i+1)<->(x:Int)∈ns'.take i:=by
      rw[tk1,FC,Fq];refine⟨fun w=>w.resolve_right (fun u=>y (by lia)),.inl⟩
     rw[FA y];simp only[this]
   rw[e];exact GD.put (gd7.tk tk8) (bJ.of (tk8.sq (SqT.of ht7)) (Paired.imp (fun _ _ y=>bS.tk tk8 y) pa7))
  ·have:=congrArg (List.map kV) (qA (v:=.ref t) ev');rw[GB,GB]at this;exact this.trans ek6
 ·rintro σ H6 ⟨o5,kvs',rfl,s6,tk6,hl6,hd6,gd6,ek6⟩;rw[Fm,FU]at gd6;have e:(fun x:Nat=>if(x:Int)∈ns' then(f64 f x).map (wo n)else f64 f x)=fun x=>(f64 f x).map (wo n):=funext fun x=>by
   by_cases y:x∈ks
   ·rw[FH (memk x y)]
   ·have:f64 f x=none:=by
     cases w:f64 f x with
     |none=>rfl
     |some c'=>exact absurd ((mk x).mpr (by rw[w];rfl)) y
    rw[this];split<;>rfl
  rw[e]at gd6;refine⟨_,rfl,_,rfl,_,rfl,lw,_,_,_,rfl,rfl,s6.tup hw,az (j:=1) rfl,_,p,d,num,kvs',_,ks,rfl,hp.tk s6.tk,hd6,gd6,ek6,nk,lk,fun x=>?_,k64,fun R' u H' s' hG' hD=>q (.does p ⟨p.g,p.S,R',num⟩) u H' (s6.trans s') (.does p r (f64 f) R' hfd on hr hin hf' hG') hD⟩;rw[mk x];cases f64 f x<;>simp
def hZ(K:Frag):Sp:=fun vs H Q _=>∃(lw lp sg:Addr)(kd:V)(num since n h:Int)(c:Nat)(ss:List Str)(xs:List V)(ps:List Plt)(rs:List (List Key)),vs=[.ref lw,.ref lp]/\SqT K H lw [kd,.int num,.int since,.ref sg,.int c,.int n,.int h]/\SqT K H sg (SV ss)/\(∀x∈ss,PyData.canLay0 (.str x)=true)/\SqL K H lp xs/\Paired (PlE K H) xs ps/\(∀p∈ps,PlG rs p)/\c<=64/\∀o v H',ak H H'->eU ps c n h num ss o->IsD K H' (outD o) v->Q v H'
variable(eF:Df P w K mg base 3 "_law_waive_due" ["_law_row","_law_plots"] (hZ K))
theorem aU:aB ["_law_row","_law_plots","_law_plot","_law_numbers","_law_columns","_law_fallen","_law_k","_law_column","_law_low_here","_law_high","_law_burden","_law_fallen_back","_law_who"] ["_law_row","_law_plots"] (ao (top 63)):=by trivial
include B bx cJ fE de iM aZ in
theorem mE(T:Tx K mg "_law_waive_due" (top 63) ["_law_row","_law_plots"]):Df P w K mg base 3 "_law_waive_due" ["_law_row","_law_plots"] (hZ K):=by
 refine T.df aU (by rintro _ _ _ _ ⟨lw,lp,sg,kd,num,since,n,h,c,ss,xs,ps,rs,rfl,hw,hs,ls,hl,pp,hG,hc,q⟩;rfl) ?_;rintro f _ A _ s H _ Q E hr ⟨lw,lp,sg,kd,num,since,n,h,c,ss,xs,ps,rs,rfl,hw,hs,ls,hl,pp,hG,hc,q⟩;have hu:=hr.units;refine aN ?_;intro kX;refine ah 10 (aj (aE (aA de hr (aa (pv 2) (aa (pv 4) (aa (aJ aO (pv 0) af (fun _ _=>rfl)) ag)))))) ?_;intro kR10 pR10;refine ah 9 (ai (aV (aG rM (pv 12) cH (aL _)) (aj (aE (aR (aa aS (aa aS (aa (pv 12) ag)))))) aI) pR10) ?_;intro kR9 pR9;refine ah 8 (ai (aw (i:=12) aU.nd rfl (by trivial) (aA fE hr (aa (bI ["_law_number"] [("_law_fallen",5)] (fb _ ["_law_fallen"]) rfl (by rfl) rfl (by trivial) (by trivial) (aP (by rfl)) (b8 (by rfl)) (mC ⟨rfl,rfl⟩ mN) (mC rfl mN) (bu (by decide)) (cX (aY (kB rfl) (by rfl) B.sorted (by trivial) (aa (pv 5) ag))) (fun _ _ _ _=>aK (i:=0) (show(["_law_number","_law_fallen"]:List Str).Nodup by trivial) rfl (Or.inl rfl) (Or.inr rfl)) (fun _ _ _ _=>bz) (fun _ _ _ _=>(jz (iq hr) (pv 1) (pv 0) (fun _ _=>rfl)))) (aa (aJ aO (pv 0) af (fun _ _=>rfl)) ag)))) pR9) ?_;intro kR8 pR8;refine ah 7 (ai (aV (aG cN (aY uH (by rfl) B.len G2 (aa (pv 5) ag)) af (aL _)) (aj (aE (aR (aa aS (aa aS (aa aS ag)))))) aI) pR8) ?_;intro kR7 pR7;refine bQ 6 2 (aj (aV (aG wB (pv 8) (pv 9) (aL _)) (ai (cu FZ rfl (eO (d8 iA (pv 7) (dU (pv 8)) (dU (pv 9)))) (aK (i:=10) aU.nd rfl (by trivial)) (aj (iE (iq hr) (pv 5) (aJ aO (pv 10) af (fun _ _=>rfl)) (aJ aO (pv 10) af (fun _ _=>rfl)) rfl))) (ai (aw (i:=11) aU.nd rfl (by trivial) (d8 iA (pv 7) (dU (pv 8)) (dU (pv 9)))) (aj (iE (iq hr) (pv 4) (pv 6) (aq fA (aq fA (aq fA (d8 iA (pv 7) iF (dU (pv 8))) (aR (aa (aJ aO (pv 7) (pv 9) (fun _ _=>rfl)) ag))) (pv 11)) (d8 iA (pv 7) (dU (aq bg (pv 9) af)) iF)) rfl)))) aI)) ?_;intro kS6x2 pS6x2;refine bQ 6 1 (ai (u4 (aA iM hr (aa (pv 7) (aa (aJ aO (pv 0) af (fun _ _=>rfl)) (aa (aJ aO (pv 0) af (fun _ _=>rfl)) ag)))) (rG rfl (fL (aK (i:=8) aU.nd rfl (by trivial)) (fL (aK (i:=9) aU.nd rfl (by trivial)) nW)))) pS6x2) ?_;intro kS6x1 pS6x1;refine bQ 6 0 (ai (aw (i:=7) aU.nd rfl (by trivial) (jz (iq hr) (pv 4) (pv 6) (fun _ _=>rfl))) pS6x1) ?_;intro kS6x0 pS6x0;refine ah 6 (ai (cu FZ rfl (cX (aY (LT.kA rfl) (by rfl) B.sorted (by trivial) (aa (pv 4) ag))) (aK (i:=6) aU.nd rfl (by trivial)) pS6x0) pR7) ?_;intro kR6 pR6;refine ah 5 (ai (aw (i:=5) aU.nd rfl (by trivial) jj) pR6) ?_;intro kR5 pR5;refine ah 4 (ai (aw (i:=4) aU.nd rfl (by trivial) (aA cJ hr (aa (pv 2) ag))) pR5) ?_;intro kR4 pR4;refine ah 3 (ai (aV ((nF (aG (eV hu) (aJ aO (pv 0) af (fun _ _=>rfl)) (pv 3) (by with_unfolding_all rfl)) (jd (aG (eV hu) (aJ aO (pv 0) af (fun _ _=>rfl)) (pv 3) (by with_unfolding_all rfl)))).pt) (aj (aE (aR (aa aS (aa aS (aa aS ag)))))) aI) pR4) ?_;intro kR3 pR3;refine ah 2 (ai (jx (i:=3) aU.nd rfl (by trivial) ["_law_burden"] [] (fb _ []) rfl (by rfl) rfl (by trivial) (by trivial) (aP (by rfl)) (b8 (by rfl)) mN mN (bu (by decide)) (cX (aA aZ hr (aa (pv 2) ag))) (fun _ _ _ _=>aK (i:=0) (show(["_law_burden"]:List Str).Nodup by trivial) rfl (Or.inl rfl) (Or.inr rfl)) (fun _ _ _ _=>bz) (fun _ _ _ _=>(aJ (c7 (K:=K) rfl) (pv 0) af (fun _ _=>rfl)))) pR3) ?_;intro kR2 pR2;refine ah 1 (ai (aV (aG hJ (pv 2) cH (aL _)) (aj (aE (aR (aa aS (aa aS (aa aS ag)))))) aI) pR2) ?_;intro kR1 pR1;refine⟨_,(ai (aw (i:=2) aU.nd rfl (by trivial) (aA bx hr (aa (pv 1) (aa (aJ aO (pv 0) af (fun _ _=>rfl)) ag)))) pR1),?_⟩;refine⟨_,rfl,_,rfl,lw,_,_,_,rfl,rfl,hw,az (j:=4) rfl,lp,xs,_,c,rfl,.inl hl,oH pp,hc,?_⟩;rcases ju (c:=c) pp with⟨e,efn⟩|⟨v,p,ev,nn,hfd,hp,mp⟩
 ·rw[e];exact⟨_,rfl,rfl,_,rfl,ip ⟨aF rfl,fun t ht=>q (.falls "waste" "") _ _ (ak.upd ht) (.waste efn) (.tup (SqT.of ae) (.cons (.str _) (.cons (.str _) (.cons (.str _) .nil))))⟩⟩
 rw[ev];have G:=hG p mp;obtain⟨f,hf,_⟩:=G.st;obtain⟨l,l1',lr,rfl,p1,p2,p3⟩:=id hp;refine⟨_,rfl,rfl,_,rfl,fM ?_⟩;refine⟨_,rfl,_,p,rs,rfl,hp,G.nm,fun la ys T H1 s1 hla py hB=>?_⟩;have onT:∀r,r∈T<->OnR p.R r:=fun r=>by
  rw[hB.mem];constructor
  ·rintro⟨c',hc',hr⟩;obtain⟨q',hq',rfl⟩:=Fp.mp hc';exact⟨q',hq',hr⟩
  ·rintro⟨q',hq',hr⟩;exact⟨_,Fp.mpr ⟨q',hq',rfl⟩,hr⟩
 have bT:∀r∈T,du r:=fun r hr=>by obtain⟨q',hq',hr'⟩:=(onT r).mp hr;exact G.nm.bur r (G.nm.sub q' hq' r hr')
 have lT:T.length<=59:=vN hB (fun c' hc' r hr=>by
  obtain⟨q',hq',rfl⟩:=Fp.mp hc'
  exact G.nm.sub q' hq' r hr) G.nm.l59
 have lyT:=Fx py;refine⟨la,rfl,⟨_,hla⟩,fun A hA=>?_⟩;have sA:∀o:HO,ak H1 (upd H1 A o):=fun o=>ak.upd hA;refine qN (K:=K) (a:=la) (xs:=ys) (fun i acc H2=>H2=upd H1 A (.lst acc)/\acc=((T.take i).map av).map V.int) ⟨rfl,rfl⟩ (fun i acc H2 _ ⟨e,_⟩=>by rw[e];exact(sA _).seq hla) ?_ ?_
 ·rintro i y acc H2 hi ⟨rfl,rfl⟩;refine dD ?_;intro kq1 kr1;obtain⟨r,hr,bur⟩:=aM py hi;obtain⟨lay,ab,rfl,ha⟩:=id bur;obtain⟨nn',k,x,m,u,er⟩:=bT r (Fs hr);have en:av r=nn':=by rw[er];rfl
  rw[er]at ha;have tk1:T.take (i+1)=T.take i++[r]:=by rw[FJ,hr];rfl
  refine⟨_,rfl,ab,_,_,_,rfl,rfl,(sA _).tup ha,az (j:=0) rfl,ae,?_,by rw[bc],?_⟩
  ·rw[Fm,Fm,FK];exact aD (by lia)
  ·rw[tk1,FN,FN,Gy,Gy,en];rfl
 rintro acc H2 ⟨rfl,rfl⟩;rw[lyT,FU];have s2:=s1.trans (sA (.lst ((T.map av).map V.int)));have hA2:(upd H1 A (.lst ((T.map av).map V.int))) A=some (.lst ((T.map av).map V.int)):=ae;generalize (upd H1 A (.lst ((T.map av).map V.int)))=H2 at s2 hA2 ⊢;have memT:∀n,n∉T.map av->∀r,OnR p.R r->av r≠n:=fun n z r on e=>z (Fp.mpr ⟨r,(onT r).mpr on,e⟩);refine⟨_,rfl,lw,_,_,_,rfl,rfl,s2.tup hw,az (j:=5) rfl,_,rfl,.int n,(T.map av).map PyData.int,.int _,.inl (.lst (SqL.of hA2) (gF _)),rfl,gC _,FF rfl,_,rfl,?_⟩;rw[mj];refine bw (fun z=>?_) (fun z=>?_)
 ·have z':n∉T.map av:=by simpa using z
  exact⟨aF rfl,fun t ht=>q (.falls "burden" "") _ _ (s2.trans (ak.upd ht)) (.burden p hfd (.inl (memT n z'))) (.tup (SqT.of ae) (.cons (.str _) (.cons (.str _) (.cons (.str _) .nil))))⟩
 have zn:n∈T.map av:=by simpa using z
 refine⟨_,rfl,lw,_,_,_,rfl,rfl,s2.tup hw,az (j:=6) rfl,_,rfl,.int h,(T.map av).map PyData.int,.int _,.inl (.lst (SqL.of hA2) (gF _)),rfl,gC _,FF rfl,_,rfl,?_⟩;rw[mj];refine bw (fun z=>?_) (fun z=>?_)
 ·have z':h∉T.map av:=by simpa using z
  exact⟨aF rfl,fun t ht=>q (.falls "burden" "") _ _ (s2.trans (ak.upd ht)) (.burden p hfd (.inr (memT h z'))) (.tup (SqT.of ae) (.cons (.str _) (.cons (.str _) (.cons (.str _) .nil))))⟩
 have zh:h∈T.map av:=by simpa using z
 obtain⟨r,rT,hr⟩:=Fp.mp zn;obtain⟨r',rT',hr'⟩:=Fp.mp zh;have on:=(onT r).mp rT;have on':=(onT r').mp rT';have hf':=wU hf;refine⟨_,rfl,_,p,f64 f,rfl,hp.tk s2.tk,hf',wV f,fun d kvs ks H3 s3 fd hd gd ek nk mk k64=>?_⟩;have fdH:H d=none:=s2.free fd;have lk:ks.length<=64:=by have:=Gb (nk.imp F4) (l₂:=List.range 64) fun x hx=>F9.mpr (k64 x hx);rwa[GJ]at this
 refine fun d2 hd2=>?_;have s23:=s2.trans s3;have fd2H:H d2=none:=s23.free hd2;have n2:d2≠d:=fun e=>by rw[e,hd]at hd2;cases hd2
 have sE:=ak.upd (o:=.dK []) hd2;have s4:=s23.trans sE;have hd4:=sE _ _ hd;have gd4:=gd.tk sE.tk;have h24:(upd H3 d2 (.dK [])) d2=some (.dK []):=ae;generalize (upd H3 d2 (.dK []))=H4 at s4 hd4 gd4 h24 ⊢;refine⟨_,rfl,d,kvs,ks.map (fun k:Nat=>(k:Int)),rfl,.inl hd4,by rw[ek,GB];rfl,by rw[Fm];omega,GI.mpr (nk.imp fun h=>by lia),fun l4 ns' hl4 pm so=>?_⟩
 have nn':ns'.Nodup:=(pm.nodup_iff).mpr (by
  rw[List.Nodup,GI]
  exact nk.imp fun h e=>by lia)
 have mem':∀z∈ns',∃k:Nat,z=(k:Int)/\k∈ks:=fun z hz=>by obtain⟨k,hk,e⟩:=Fp.mp (pm.mem_iff.mp hz);exact⟨k,e.symm,hk⟩
 have memk:∀k:Nat,k∈ks->(k:Int)∈ns':=fun k hk=>pm.mem_iff.mpr (Fp.mpr ⟨k,hk,rfl⟩);have s5:=s4.trans (ak.upd (o:=.lst (ns'.map V.int)) hl4);have h5l:(upd H4 l4 (.lst (ns'.map V.int))) l4=some (.lst (ns'.map V.int)):=ae;have hd5:=(ak.upd (o:=.lst (ns'.map V.int)) hl4) _ _ hd4;have h25:=(ak.upd (o:=.lst (ns'.map V.int)) hl4) _ _ h24;have gd5:=gd4.tk (ak.upd (o:=.lst (ns'.map V.int)) hl4).tk;generalize (upd H4 l4 (.lst (ns'.map V.int)))=H5 at s5 h5l hd5 h25 gd5 ⊢;have n4:l4≠d:=fun e=>by rw[e,hd5]at h5l;cases h5l
 have n5:l4≠d2:=fun e=>by rw[e,h25]at h5l;cases h5l
 refine⟨l4,rfl,⟨_,SqL.of h5l⟩,d9 (K:=K) (a:=l4) (xs:=ns'.map V.int) (fun i σ H6=>∃(o6 o7 o8 o9 o10 o11:Option V)(kvs' kf:List (Key×V))(D:List (List Key)),σ=[some (.ref lw),some (.ref lp),some (.ref l),some (.ref A),some (.ref d),some (.ref d2),o6,o7,o8,o9,o10,o11,none]/\ak H H6/\H6 l4=some (.lst (ns'.map V.int))/\H6 d=some (.dK kvs')/\H6 d2=some (.dK kf)/\GD K H6 kvs' (fun x=>if(x:Int)∈ns'.take i then(f64 f x).map (dI n h)else f64 f x)/\(kvs'.map fun q=>kV q.1)=NV ks/\Paired KF kf D/\(D.map av).Nodup/\(∀r,r∈D<->∃x:Nat,(x:Int)∈ns'.take i/\∃c,f64 f x=some c/\r∈dX n h c)) ⟨none,none,none,none,none,none,kvs,[],[],rfl,s5,h5l,hd5,h25,?_,ek,.nil,List.nodup_nil,fun r=>⟨(fun z=>nomatch z),fun⟨_,z,_⟩=>nomatch z⟩⟩ (fun i σ H6 _ hPz=>hPz.elim fun _ hPz=>hPz.elim fun _ hPz=>hPz.elim fun _ hPz=>hPz.elim fun _ hPz=>hPz.elim fun _ hPz=>hPz.elim fun _ hPz=>hPz.elim fun _ hPz=>hPz.elim fun _ hPz=>hPz.elim fun _ hPz=>(fun e=>SqL.of e) (hPz.2.2.1)) ?_ ?_⟩
 ·have e:(fun x:Nat=>if(x:Int)∈ns'.take 0 then(f64 f x).map (dI n h)else f64 f x)=f64 f:=funext fun x=>FA (fun z=>nomatch z);rw[e];exact gd5
 ·rintro i y σ H6 hi ⟨o6,o7,o8,o9,o10,o11,kvs',kf,D,rfl,s6,hl6,hd6,h26,gd6,ek6,pk,ndD,hD⟩;refine dB ?_;intro kD2;obtain⟨z,hz,rfl⟩:∃z,ns'[i]?=some z/\y=.int z:=by
   rw[FO]at hi;cases e:ns'[i]? with
   |none=>rw[e]at hi;cases hi
   |some z=>rw[e]at hi;cases hi;exact⟨z,rfl,rfl⟩
  obtain⟨k,rfl,kin⟩:=mem' z (Fs hz);have nin:¬(k:Int)∈ns'.take i:=fun y=>by have nd:=nn';rw[<-Gs i ns',GY]at nd;exact nd.2.2 _ y _ (by rw[iK hz];exact Fw ..) rfl
  have tk1:ns'.take (i+1)=ns'.take i++[(k:Int)]:=by rw[FJ,hz];rfl
  rcases gd6 k with⟨_,e⟩|⟨b,c',ev',ec,hcv⟩
  ·have e':(if(k:Int)∈ns'.take i then(f64 f k).map (dI n h)else f64 f k)=none:=e;rw[FA nin]at e';have:=(mk k).mp kin;rw[e']at this;cases this
  have ec':f64 f k=some c':=by have e':(if(k:Int)∈ns'.take i then(f64 f k).map (dI n h)else f64 f k)=some c':=ec;rwa[FA nin]at e'
  have good:GoodC c':=by obtain⟨q',hq',e2⟩:=Fp.mp (hf'.all k c' (k64 k kin) ec');rw[<-e2];exact G.nm.good q' hq'
  have g20:=good.2.2;have lkv:kvs'.length<=64:=by
   have:=congrArg List.length ek6;rw[Fm,Fm]at this
   lia
  have dg:=pP.k (k:=.inl (k:Int)) hd6;rw[ev']at dg;have mtk:∀x:Nat,(x:Int)∈ns'.take (i+1)<->(x:Int)∈ns'.take i\/x=k:=fun x=>by rw[tk1,FC,Fq];exact⟨fun w=>w.imp id (fun u=>by lia),fun w=>w.imp id (fun u=>by lia)⟩
  have efun:(fun x:Nat=>if(x:Int)∈ns'.take (i+1)then(f64 f x).map (dI n h)else f64 f x)=fun x=>if x=k then some (dI n h c')else(fun x:Nat=>if(x:Int)∈ns'.take i then(f64 f x).map (dI n h)else f64 f x) x:=funext fun x=>by
   show(if(x:Int)∈ns'.take (i+1)then(f64 f x).map (dI n h)else f64 f x)=if x=k then some (dI n h c')else if(x:Int)∈ns'.take i then(f64 f x).map (dI n h)else f64 f x
   by_cases y:x=k
   ·subst y;rw[FH ((mtk x).mpr (.inr rfl)),FH rfl,ec'];rfl
   ·have:(x:Int)∈ns'.take (i+1)<->(x:Int)∈ns'.take i:=by
     rw[mtk];exact⟨fun w=>w.resolve_right y,.inl⟩
    rw[FA y];simp only[this]
  have eD:∀D':List (List Key),(∀r,r∈D'<->r∈D\/r∈dX n h c')->∀r,r∈D'<->∃x:Nat,(x:Int)∈ns'.take (i+1)/\∃c,f64 f x=some c/\r∈dX n h c:=fun D' hD2 r=>by
   rw[hD2,hD];constructor
   ·rintro(⟨x,hx,y⟩|y)
    ·exact⟨x,(mtk x).mpr (.inl hx),y⟩
    ·exact⟨k,(mtk k).mpr (.inr rfl),c',ec',y⟩
   ·rintro⟨x,hx,c2,e2,y⟩;rcases (mtk x).mp hx with w|w
    ·exact .inl ⟨x,w,c2,e2,y⟩
    ·subst w;rw[ec']at e2;cases e2;exact .inr y
  refine⟨_,rfl,_,rfl,d,_,rfl,dg,?_⟩;refine⟨_,rfl,_,rfl,lw,_,_,_,rfl,rfl,s6.tup hw,az (j:=5) rfl,_,rfl,lw,_,_,_,rfl,rfl,s6.tup hw,az (j:=6) rfl,b,n,h,c',rfl,hcv,good,fun ls' i0 j0 H7 s7 hls sp=>?_⟩;refine⟨ls',_,rfl,hls,rfl,_,_,rfl,_,_,rfl,rfl,?_⟩;have hd7:=s7 _ _ hd6;have h27:=s7 _ _ h26;have hl7:=s7 _ _ hl6;have gd7:=gd6.tk s7.tk;have s67:=s6.trans s7;have hcv7:=hcv.tk s7.tk;refine⟨_,rfl,_,rfl,_,_,rfl,rfl,_,rfl,?_⟩;refine bw (fun z=>?_) (fun z=>?_)
  ·have lt:i0<j0:=by
    have:=F7 z
    lia
   obtain⟨hi0,hj0⟩:ff n c' i0/\ff h c' j0:=by
    rcases sp with y|⟨y1,y2,_⟩
    ·exact y
    ·lia
   have il:=hi0.lt;have jl:=hj0.lt;obtain⟨xs2,hx2,pr2⟩:=hcv7.bur;have lx2:xs2.length=c'.length:=Fx pr2;have ecut:gO xs2 (some (i0:Int)) (some (j0:Int))=(xs2.drop i0).take (j0-i0):=by unfold gO;rw[HT.iD,HT.iD,Nat.min_eq_left (by lia),Nat.min_eq_left (by lia)]
   have epas:=jk hi0 hj0;have ne:dX n h c'≠[]:=fun y=>by
    have:=congrArg List.length (epas.symm.trans y);rw[FK,GP,G6]at this
    lia
   have pps:Paired (bS K H7) ((xs2.drop i0).take (j0-i0)) (dX n h c'):=by rw[epas];exact(bG _ (bG _ pr2).2).1
   have colRs:∀{y:Nat}{c2:Col},f64 f y=some c2->∀r∈c2,r∈rs:=fun {y c2} e r hr=>by have yk:=(mk y).mpr (by rw[e];rfl);obtain⟨q',hq',e2⟩:=Fp.mp (hf'.all _ _ (k64 _ yk) e);exact G.nm.sub q' hq' r (by rw[e2];exact hr)
   have l59:=G.nm.l59;refine⟨_,rfl,_,rfl,_,rfl,_,rfl,_,rfl,b,xs2,rfl,hx2,fun r3 H8 s8 h8=>?_⟩;rw[ecut]at h8;have hd8:=s8 _ _ hd7;have h28:=s8 _ _ h27;have hl8:=s8 _ _ hl7;have gd8:=gd7.tk s8.tk;have pp8:=Paired.imp (fun _ _ z=>bS.tk s8.tk z) pps;refine⟨r3,rfl,⟨_,h8⟩,gW (K:=K) (a:=r3) (xs:=(xs2.drop i0).take (j0-i0)) (fun j σ H9=>∃(o10:Option V)(kf':List (Key×V))(D':List (List Key)),σ=[some (.ref lw),some (.ref lp),some (.ref l),some (.ref A),some (.ref d),some (.ref d2),some (.int (k:Nat)),some (.ref b),some (.int (i0:Nat)),some (.int (j0:Nat)),o10,o11,none]/\(∀b,b≠d2->H9 b=H8 b)/\H9 d2=some (.dK kf')/\Paired KF kf' D'/\(D'.map av).Nodup/\∀r,r∈D'<->r∈D\/r∈(dX n h c').take j) ⟨o10,kf,D,rfl,fun _ _=>rfl,h28,pk,ndD,fun r=>by simp⟩ (fun j σ H9 _ hPz=>hPz.elim fun _ hPz=>hPz.elim fun _ hPz=>hPz.elim fun _ hPz=>(fun e=>(uQ e h28).sq h8) (hPz.2.1)) ?_ ?_⟩
   ·rintro j y σ H9 hj ⟨o10',kf',D',rfl,e9,h29,pk',nd',hD2⟩;refine dB ?_;intro kD3;obtain⟨rj,hrj,burj⟩:=aM pp8 hj;have rin:=Fs hrj;have tk9:=uQ e9 h28;obtain⟨lay,ab,rfl,ha⟩:=id burj;have rjrs:rj∈rs:=colRs ec' rj (iG rin);obtain⟨nn2,kd2,x2,m2,u2,er⟩:=G.nm.bur rj rjrs;have en:av rj=nn2:=(by rw[er];rfl);have eh:cz rj=x2:=(by rw[er];rfl);rw[er]at ha;have ha9:=tk9.sq ha;have Drs:∀x∈D',x∈rs:=fun x hx=>by
     rcases (hD2 x).mp hx with w|w
     ·obtain⟨y,_,c2,e2,w2⟩:=(hD x).mp w;exact colRs e2 x (iG w2)
     ·exact colRs ec' x (iG (Gw w))
    have ub:∀x∈D',av x=av rj->x=rj:=fun x hx e=>mI G.nm.nd x (Drs x hx) rj rjrs e;have put:=C4 (r:=rj) pk' ub;have lkf:kf'.length<=59:=by
     have:=Gb nd' (l₂:=rs.map av) fun x hx=>by obtain⟨r,hr,e⟩:=Fp.mp hx;exact Fp.mpr ⟨r,Drs r hr,e⟩
     rw[Fm,Fm]at this;have:=Fx pk'
     lia
    refine⟨_,rfl,ab,_,_,_,rfl,rfl,ha9,az (j:=2) rfl,_,rfl,_,rfl,ab,_,_,_,rfl,rfl,ha9,az (j:=0) rfl,d2,_,rfl,pN.k (k:=.inl nn2) h29 (aD (by lia)),?_⟩;refine⟨_,_,mY D' rj,rfl,fun b' hb'=>by rw[au hb'];exact e9 b' hb',ae,by rw[en,eh]at put;exact put,tD nd',fun x=>?_⟩;rw[pJ ub,hD2,FJ,hrj,F2,FC,Fq,or_assoc]
   ·rintro σ H9 ⟨o10',kf',D',rfl,e9,h29,pk',nd',hD2⟩;rw[Fx pp8,FU]at hD2;have tk9:=uQ e9 h28;have s9:ak H H9:=fun b' o' e=>by
     have:b'≠d2:=fun y=>by rw[y,fd2H]at e;cases e
     rw[e9 b' this];exact(s67.trans s8) _ _ e
    have hd9:H9 d=some (.dK kvs'):=(by rw[e9 d (fun y=>n2 y.symm)];exact hd8);have hl9:H9 l4=some (.lst (ns'.map V.int)):=(by rw[e9 l4 n5];exact hl8);have gd9:=gd8.tk tk9;have hx9:=tk9.sq (s8.tup hx2);have pr9:=Paired.imp (fun _ _ z=>(bS.tk s8.tk z).tk tk9) pr2;refine⟨_,rfl,_,rfl,_,rfl,_,rfl,_,rfl,b,xs2,rfl,hx9,fun r4 HA sA2 h4A=>?_⟩;rw[ecut]at h4A;obtain⟨vj,hvj⟩:∃v,xs2[j0]?=some v:=⟨_,Fy (by lia)⟩;obtain⟨rj,hrj,burj⟩:=aM pr9 hvj;refine⟨_,rfl,_,rfl,_,rfl,b,xs2,rfl,sA2.tup hx9,fun r1 HB sB2 hB1=>?_⟩;rw[zZ (by lia)]at hB1;refine⟨_,rfl,_,rfl,b,_,_,_,rfl,rfl,(sA2.trans sB2).tup hx9,az hvj,aF rfl,fun r2 hr2=>?_⟩;have sC:=ak.upd (o:=.tup [vj]) hr2;refine⟨r1,r2,_,_,rfl,rfl,sC.tup hB1,SqT.of ae,Nat.le_of_lt (aD (by simp only[Fz,FK,GP,FV,G6];lia)),fun r5 HD sD hD5=>?_⟩;refine⟨_,rfl,r5,r4,_,_,rfl,rfl,hD5,(sB2.trans (sC.trans sD)).tup h4A,Nat.le_of_lt (aD (by simp only[Fz,FK,GP,FV,G6];lia)),fun r6 HE sE2 hE6=>?_⟩;refine⟨_,rfl,_,rfl,_,_,rfl,rfl,_,rfl,b,xs2,rfl,(sA2.trans (sB2.trans (sC.trans (sD.trans sE2)))).tup hx9,fun r7 HF sF2 hF7=>?_⟩;rw[show gO xs2 (some ((j0:Int)+1)) none=xs2.drop (j0+1)from zY (n:=j0+1) (by lia)]at hF7;refine⟨r6,r7,_,_,rfl,rfl,sF2.tup hE6,hF7,Nat.le_of_lt (aD (by simp only[Fz,FK,GP,FV,G6];lia)),fun r8 HG sG hG8=>?_⟩;have sAll:=sA2.trans (sB2.trans (sC.trans (sD.trans (sE2.trans (sF2.trans sG)))));refine⟨_,rfl,_,rfl,d,_,rfl,pN.k (k:=.inl (k:Int)) (sAll _ _ hd9) (aD (by omega)),?_⟩;have tkP:=TK.dk (o:=.dK (putK kvs' (.inl (k:Int)) (.ref r8))) (sAll _ _ hd9);refine⟨_,_,_,_,_,_,putK kvs' (.inl (k:Int)) (.ref r8),kf',D',rfl,ak.set fdH (s9.trans sAll),by rw[au n4];exact sAll _ _ hl9,ae,by rw[au n2];exact sAll _ _ h29,?_,?_,pk',nd',eD D' hD2⟩
    ·rw[efun];refine GD.put ((gd9.tk sAll.tk).tk tkP) ?_;rw[uN good.2.1 hi0 hj0 hrj ne];have prA:=Paired.imp (fun _ _ z=>(bS.tk sAll.tk z).tk tkP) pr9;refine bJ.of (tkP.sq hG8) (Paired.app (Paired.app (Paired.app (bG i0 prA).1 (.cons ((burj.tk sAll.tk).tk tkP) .nil)) ?_) (bG (j0+1) prA).2);rw[epas];exact(bG _ (bG i0 prA).2).1
    ·have:=congrArg (List.map kV) (qA (v:=.ref r8) ev');rw[GB,GB]at this;exact this.trans ek6
  ·have z':¬(i0:Int)<(j0:Int):=fun w=>z (FQ w);have pe:dX n h c'=[]:=by
    rcases sp with⟨y1,y2⟩|⟨_,_,y|y⟩
    ·rw[jk y1 y2,show j0-i0=0 by lia,List.take_zero]
    ·exact lj y
    ·exact nX y
   have we:dI n h c'=c':=by unfold dI;rw[FH pe]
   refine⟨_,_,_,_,_,_,kvs',kf,D,rfl,s67,hl7,hd7,h27,?_,ek6,pk,ndD,eD D (fun r=>by rw[pe];simp)⟩;rw[efun,we];have e:(fun x=>if x=k then some c' else(fun x:Nat=>if(x:Int)∈ns'.take i then(f64 f x).map (dI n h)else f64 f x) x)=fun x:Nat=>if(x:Int)∈ns'.take i then(f64 f x).map (dI n h)else f64 f x:=funext fun x=>by
    show(if x=k then some c' else if(x:Int)∈ns'.take i then(f64 f x).map (dI n h)else f64 f x)=if(x:Int)∈ns'.take i then(f64 f x).map (dI n h)else f64 f x
    by_cases y:x=k
    ·subst y;rw[FH rfl,FA nin,ec']
    ·rw[FA y]
   rw[e];exact gd7
 ·rintro σ H6 ⟨o6,o7,o8,o9,o10,o11,kvs',kf,D,rfl,s6,hl6,hd6,h26,gd6,ek6,pk,ndD,hD⟩;rw[Fm,FU]at gd6 hD;have e:(fun x:Nat=>if(x:Int)∈ns' then(f64 f x).map (dI n h)else f64 f x)=fun x=>(f64 f x).map (dI n h):=funext fun x=>by
   by_cases y:x∈ks
   ·rw[FH (memk x y)]
   ·have:f64 f x=none:=by
     cases w:f64 f x with
     |none=>rfl
     |some c'=>exact absurd ((mk x).mpr (by rw[w];rfl)) y
    rw[this];split<;>rfl
  rw[e]at gd6;have hD':∀r,r∈D<->∃c∈p.R.map (fun q=>dX n h q.2),r∈c:=fun r=>by
   rw[hD];constructor
   ·rintro⟨x,hx,c',e,hr⟩;have xk:x∈ks:=(mk x).mpr (by rw[e];rfl);obtain⟨q',hq',e2⟩:=Fp.mp (hf'.all x c' (k64 x xk) e);exact⟨_,Fp.mpr ⟨q',hq',rfl⟩,by rw[e2];exact hr⟩
   ·rintro⟨c',hc',hr⟩;obtain⟨q',hq',rfl⟩:=Fp.mp hc';obtain⟨i,hi,e⟩:=kI hf' hq';exact⟨i,memk i ((mk i).mpr (by rw[e];rfl)),q'.2,e,hr⟩
  have DT:∀r∈D,r∈T:=fun r hr=>by obtain⟨c',hc',hr'⟩:=(hD' r).mp hr;obtain⟨q',hq',rfl⟩:=Fp.mp hc';exact(onT r).mpr ⟨q',hq',iG hr'⟩
  have lD:D.length<=59:=by
   have:=Gb ndD (l₂:=rs.map av) fun x hx=>by obtain⟨r,hr,e⟩:=Fp.mp hx;obtain⟨q',hq',hr'⟩:=(onT r).mp (DT r hr);exact Fp.mpr ⟨r,G.nm.sub q' hq' r hr',e⟩
   rw[Fm,Fm]at this;have:=G.nm.l59
   lia
  have lkf:=Fx pk;refine⟨_,rfl,d2,kf,rfl,h26,rfl,_,rfl,?_⟩;refine bw (fun z=>?_) (fun z=>?_)
  ·have z0:kf.length=0:=by
    have:=V.int.inj (F7 z)
    lia
   have D0:D=[]:=List.eq_nil_of_length_eq_zero (by lia);exact⟨aF rfl,fun t ht=>q (.falls "rank" "") _ _ (s6.trans (ak.upd ht)) (.rank p r r' hfd on hr on' hr' ⟨.nil,fun x=>⟨(fun y=>nomatch y),fun y=>by have:=(hD' x).mpr y;rw[D0]at this;exact this⟩⟩) (.tup (SqT.of ae) (.cons (.str _) (.cons (.str _) (.cons (.str _) .nil))))⟩
  have kne:kf.length≠0:=fun y=>z (FQ (by rw[y];rfl));refine⟨_,rfl,d2,kf,D.map av,rfl,.inl h26,Bs pk,by rw[Fm];omega,fun l5 ns2 hl5 pm2 so2=>?_⟩;obtain⟨T2,eT2,subT2,hB2⟩:=yj ndD hD' pm2 so2;have lT2:T2.length=D.length:=by have:=pm2.length_eq;rw[<-eT2,Fm,Fm]at this;exact this
  have s7:=s6.trans (ak.upd (o:=.lst (ns2.map V.int)) hl5);have h57:(upd H6 l5 (.lst (ns2.map V.int))) l5=some (.lst (ns2.map V.int)):=ae;have h27:=(ak.upd (o:=.lst (ns2.map V.int)) hl5) _ _ h26;have hd7:=(ak.upd (o:=.lst (ns2.map V.int)) hl5) _ _ hd6;have gd7:=gd6.tk (ak.upd (o:=.lst (ns2.map V.int)) hl5).tk;generalize (upd H6 l5 (.lst (ns2.map V.int)))=H7 at s7 h57 h27 hd7 gd7 ⊢;refine⟨l5,rfl,⟨_,SqL.of h57⟩,fun A2 hA2'=>?_⟩;have sB:∀o:HO,ak H7 (upd H7 A2 o):=fun o=>ak.upd hA2';refine qN (K:=K) (a:=l5) (xs:=ns2.map V.int) (fun i acc H8=>H8=upd H7 A2 (.lst acc)/\acc=SV ((T2.take i).map cz)) ⟨rfl,rfl⟩ (fun i acc H8 _ ⟨e,_⟩=>by rw[e];exact(sB _).seq (SqL.of h57)) ?_ ?_
  ·rintro i y acc H8 hi ⟨rfl,rfl⟩;refine dD ?_;intro kq4 kr4;rw[<-eT2]at hi;obtain⟨ri,hri,rfl⟩:∃ri,T2[i]?=some ri/\y=.int (av ri):=by
    rw[FO,FO]at hi;cases e:T2[i]? with
    |none=>rw[e]at hi;cases hi
    |some z=>rw[e]at hi;cases hi;exact⟨z,rfl,rfl⟩
   have rin:=subT2 ri (Fs hri);obtain⟨r3,ev3,m3,e3⟩:=C3 pk (Fp.mpr ⟨ri,rin,rfl⟩);obtain rfl:=mI ndD r3 m3 ri rin e3;have dg:=pP.k (k:=.inl (av r3)) ((sB (.lst (SV ((T2.take i).map cz)))) _ _ h27);rw[ev3]at dg;refine⟨_,rfl,_,rfl,d2,_,rfl,dg,ae,?_,by rw[bc],?_⟩
   ·rw[show(SV ((T2.take i).map cz)).length=(T2.take i).length by simp[SV],FK];exact aD (by lia)
   ·rw[FJ,hri,F2];simp[SV]
  rintro acc H8 ⟨rfl,rfl⟩;rw[Fm,<-eT2,Fm,FU];have s8:=s7.trans (sB (.lst (SV (T2.map cz))));have hA8:(upd H7 A2 (.lst (SV (T2.map cz)))) A2=some (.lst (SV (T2.map cz))):=ae;have hd8:=(sB (.lst (SV (T2.map cz)))) _ _ hd7;have gd8:=gd7.tk (sB (.lst (SV (T2.map cz)))).tk;generalize (upd H7 A2 (.lst (SV (T2.map cz))))=H8 at s8 hA8 hd8 gd8 ⊢;have lyT2:∀x∈T2.map cz,PyData.canLay0 (.str x)=true:=fun x hx=>by obtain⟨rr,hrr,rfl⟩:=Fp.mp hx;have rT2:=DT rr (subT2 rr hrr);obtain⟨vv,_,hv⟩:=Paired.right py rT2;obtain⟨_,_,_,_,_,hh⟩:=iP (bT rr rT2) hv;exact hh
  refine⟨_,rfl,lw,_,_,_,rfl,rfl,s8.tup hw,az (j:=3) rfl,A2,sg,ss,T2.map cz,rfl,SqL.of hA8,s8.tup hs,ls,lyT2,?_⟩;refine⟨_,rfl,rfl,_,rfl,?_⟩;have ne2:T2≠[]:=fun y=>by
   rw[y]at lT2;have:D.length=0:=lT2.symm
   lia
  cases hx:fH ss (T2.map cz)with
  |some x=>exact ip ⟨_,rfl,aF rfl,fun t ht=>q (.falls "sign" x) _ _ (s8.trans (ak.upd ht)) (.sign p r r' T2 x hfd on hr on' hr' hB2 hx) (.tup (SqT.of ae) (.cons (.str _) (.cons (.str _) (.cons (.str _) .nil))))⟩
  |none=>refine fM ?_;refine⟨_,rfl,_,rfl,_,rfl,lw,_,_,_,rfl,rfl,s8.tup hw,az (j:=1) rfl,_,p,d,num,kvs',_,ks,rfl,hp.tk s8.tk,hd8,gd8,ek6,nk,lk,fun x=>?_,k64,fun R' u H' s' hG' hD=>q (.does p ⟨p.g,p.S,R',num⟩) u H' (s8.trans s') (.does p r r' T2 (f64 f) R' hfd on hr on' hr' hB2 ne2 hx hf' hG') hD⟩;rw[mk x];cases f64 f x<;>simp
def gP(K:Frag):Sp:=fun vs H Q _=>∃(a:Addr)(ns:List Int)(w h:Nat)(z:Int),vs=[.ref a,.int w,.int h,.int z]/\SqL K H a (ns.map V.int)/\(0<w/\w<=8/\0<h/\h<=8)/\∀l vs ps rs H',ak H H'->H l=none->H' l=some (.lst vs)->Paired (PlE K H') vs ps->pK w h ((List.range 6).map (ik z)) rs ps->(∀p∈ps,PlG rs p)->Q (.ref l) H'
variable(d3:Df P w K mg base 4 "_law_make_plots" ["_law_script","_law_wide","_law_high","_law_way"] (gP K))
theorem bo:aB ["_law_script","_law_wide","_law_high","_law_way","_law_ground","_law_some_here","_law_seed","_law_pool","_law_found","_law_k","_law_cell"] ["_law_script","_law_wide","_law_high","_law_way"] (ao (top 49)):=by trivial
include B dG aH eZ bD aC eG in
theorem lA(T:Tx K mg "_law_make_plots" (top 49) ["_law_script","_law_wide","_law_high","_law_way"]):Df P w K mg base 4 "_law_make_plots" ["_law_script","_law_wide","_law_high","_law_way"] (gP K):=by
 refine T.df bo (by rintro _ _ _ _ ⟨a,ns,w,h,z,rfl,hS,⟨hw,hw8,hh,hh8⟩,q⟩;rfl) ?_;rintro f _ A _ s H _ Q E hr ⟨a,ns,w,h,z,rfl,hS,⟨hw,hw8,hh,hh8⟩,q⟩;refine aN ?_;intro kX;refine ah 7 (aj (aE (pv 8))) ?_;intro kR7 pR7;refine ah 6 (bF (aV (aG cN (aA aC hr (aa (pv 6) (aa af (aa af ag)))) af (aL _)) (aj (dA (u6 Ga PySem.F.slot_list_reverse PySem.F.type_list_reverse vi (pv 8)))) aI) pR7) ?_;intro kR6 pR6;refine bQ 5 1 (aj (aV (aG nG (aA aC hr (aa (pv 10) (aa af (aa af ag)))) af (aL _)) (aj (dA (jW Ga GA Gz dY (pv 8) (aa (aA eG hr (aa (aJ bV (pv 5) (pv 9) (fun _ _=>rfl)) (aa (pv 10) (aa (pv 7) (aa (pv 3) (aa (aq bg af (aq bh (aq bg (pv 6) (aq bZ (aq b6 (pv 9) af) af)) (aq j7 af af))) ag)))))) ag)))) aI)) ?_;intro kS5x1 pS5x1;refine bQ 5 0 (ai (aw (i:=10) bo.nd rfl (by trivial) (aA aH hr (aa (pv 0) (aa (aq bg af (pv 9)) ag)))) pS5x1) ?_;intro kS5x0 pS5x0;refine ah 5 (ai (cu FZ rfl (bL (by rfl) B.range (aa (aY (yh rfl) (by rfl) B.min boot_min (aa (aY bO (by rfl) B.len G2 (aa (pv 5) ag)) (aa af ag))) ag)) (aK (i:=9) bo.nd rfl (by trivial)) pS5x0) pR6) ?_;intro kR5 pR5;refine ah 4 (ai (aw (i:=8) bo.nd rfl (by trivial) (dy ag)) pR5) ?_;intro kR4 pR4;refine ah 3 (ai (jx (i:=7) bo.nd rfl (by trivial) ["_law_k"] [("_law_seed",6),("_law_way",3)] (fb _ ["_law_way","_law_seed"]) rfl (by rfl) rfl (by trivial) (by trivial) (aP (by rfl)) (b8 (by rfl)) (mC ⟨rfl,rfl⟩ (mC ⟨rfl,rfl⟩ mN)) (mC rfl (mC rfl mN)) (bu (by decide)) (bL (by rfl) B.range (aa af ag)) (fun _ _ _ _=>aK (i:=0) (show(["_law_k","_law_seed","_law_way"]:List Str).Nodup by trivial) rfl (Or.inl rfl) (Or.inr rfl)) (fun _ _ _ _=>bz) (fun _ _ _ _=>(aA bD hr (aa (pv 0) (aa (pv 1) (aa (pv 2) ag)))))) pR4) ?_;intro kR3 pR3;refine ah 2 (ai (aw (i:=6) bo.nd rfl (by trivial) (aA aH hr (aa (pv 0) (aa af ag)))) pR3) ?_;intro kR2 pR2;refine ah 1 (ai (aw (i:=5) bo.nd rfl (by trivial) (aq CK (aA eZ hr (aa (pv 1) (aa (pv 2) (aa (pv 4) ag)))) (aA eZ hr (aa (pv 1) (aa (pv 2) (aa (aq dM (aq dM (aq gy af (aq bZ (pv 1) (pv 2))) af) (pv 4)) ag)))))) pR2) ?_;intro kR1 pR1;refine⟨_,(ai (aw (i:=4) bo.nd rfl (by trivial) (aA dG hr (aa (aA aH hr (aa (pv 0) (aa af ag))) (aa (pv 1) (aa (pv 2) ag))))) pR1),?_⟩;have hwh:w*h<=64:=Nat.mul_le_mul hw8 hh8;refine⟨_,rfl,a,ns,1,rfl,hS,_,rfl,_,rfl,_,w,h,rfl,⟨hw,hw8,hh,hh8⟩,fun G H1 hG s1=>?_⟩;refine⟨_,rfl,_,rfl,_,rfl,w,h,G,rfl,⟨hw,hw8,hh8⟩,hG,fun l1 ps H2 n2 s2 hl1 hp1=>?_⟩;have pos:0<2^(w*h):=Nat.two_pow_pos _;have es:1*(2:Int)^((w:Int)*(h:Int)).toNat-1-(G:Int)=((dif (2^(w*h)-1) G:Nat):Int):=by
  rw[<-yS _ _ hG,Int.one_mul,show((w:Int)*(h:Int)).toNat=w*h by rw[show(w:Int)*(h:Int)=((w*h:Nat):Int) by simp];exact Gg _];have:((2^(w*h):Nat):Int)=(2:Int)^(w*h):=by simp
  omega
 refine⟨_,rfl,_,rfl,_,rfl,_,rfl,_,_,rfl,rfl,.inl ⟨by lia,by lia⟩,_,_,rfl,rfl,⟨?_,?_,by decide⟩,_,_,rfl,rfl,_,rfl,_,_,rfl,rfl,w,h,dif (2^(w*h)-1) G,?_,⟨hw,hw8,hh8⟩,?_,fun l2 qs H3 n3 s3 hl2 hp2=>?_⟩
 ·have e1:(w:Int)*(h:Int)=((w*h:Nat):Int):=by simp
  rw[e1];lia
 ·have e1:(w:Int)*(h:Int)=((w*h:Nat):Int):=by simp
  rw[e1];lia
 ·simp only[es]
 ·exact pq (by omega)
 obtain⟨b1,b2,b3,lp,lq⟩:=vO hw hG hwh hp1 hp2;refine⟨l1,l2,_,_,rfl,rfl,s3 _ _ hl1,hl2,?_,fun l3 hl3=>?_⟩
 ·rw[Fm,Fm];exact Nat.le_of_lt (aD (by lia))
 rw[<-gJ];have s4:=s1.trans (s2.trans (s3.trans (ak.upd (o:=.lst (NV (ps++qs))) hl3)));have h4:(upd H3 l3 (.lst (NV (ps++qs)))) l3=some (.lst (NV (ps++qs))):=ae;have lps:(ps++qs).length<=128:=by rw[Fz];lia
 generalize (upd H3 l3 (.lst (NV (ps++qs))))=H4 at s4 h4 ⊢;generalize ps++qs=gs at b1 b2 b3 h4 lps ⊢;refine⟨_,rfl,a,ns,2,rfl,s4.seq hS,?_⟩;refine⟨13,rfl,by decide,by decide,fun A hA=>?_⟩;refine mh (n:=13) (lo:=0) (fun i acc H5=>ak H4 H5/\H5 A=some (.lst acc)/\∃rs:List (List Key),Paired (bS K H5) acc rs/\rs.length=i/\(∀r∈rs,du r)/\rs.map av=(List.range i).map fun k:Nat=>se (k:Nat) (ns.getD 2 0)) ⟨ak.upd hA,ae,[],.nil,rfl,(fun _ y=>nomatch y),rfl⟩ ?_ ?_
 ·rintro i acc H5 hi ⟨s5,h5,rs,pr,lr,br,nr⟩;rw[show(0:Int)+(i:Int)=((i:Nat):Int) by omega];refine dD ?_;intro kq1 kr1;refine⟨_,rfl,_,rfl,_,rfl,i,_,_,rfl,by lia,fun lb r H6 s6 hb hlay hbur hnum=>?_⟩;have h6:=s6 _ _ h5;have tk:=TK.lst (o:=.lst (acc++[.ref lb])) h6;have la:=Fx pr;refine⟨h6,aD (by lia),?_,ae,rs++[r],?_,by rw[Fz,lr];rfl,fun x hx=>?_,by rw[FN,nr,List.range_succ,FN,Gy,Gy,hnum]⟩
  ·intro b o e;rw[au (fun y=>by rw[y,hA]at e;cases e)];exact s6 _ _ (s5 _ _ e)
  ·exact Paired.app (Paired.imp (fun _ _ y=>(y.tk s6.tk).tk tk) pr) (.cons (bS.tk tk ⟨hlay,lb,rfl,SqT.of hb⟩) .nil)
  ·rcases FC.mp hx with y|y
   ·exact br x y
   ·rw[Fq.mp y];exact hbur
 rintro acc H5 ⟨s5,h5,rs,pr,lr,br,nr⟩;have nd13:(rs.map av).Nodup:=by rw[nr];exact CQ _
 refine⟨aF rfl,fun lf hlf=>?_⟩;have s6:=ak.upd (o:=.lst []) hlf;have h46:(upd H5 lf (.lst [])) l3=some (.lst (NV gs)):=s6 _ _ (s5 _ _ h4);have fr:H lf=none:=(s4.trans s5).free hlf;obtain⟨n,en,n8,nl⟩:∃n:Nat,(if(8:Int)<(((NV gs).length:Nat):Int)then(8:Int)else(((NV gs).length:Nat):Int))=(n:Nat)/\n<=8/\n<=gs.length:=by
  rw[Fm];split
  ·exact⟨8,rfl,by lia,by lia⟩
  ·exact⟨gs.length,rfl,by lia,by lia⟩
 refine⟨_,rfl,l3,_,rfl,.inl (SqL.of h46),_,_,rfl,n,congrArg (fun x=>[V.int x]) en,by lia,by lia,?_⟩;rw[Gg];refine gb (lo:=0) (fun i σ H7=>∃(o9 o10:Option V)(vs:List V)(pl:List Plt),σ=[some (.ref a),some (.int w),some (.int h),some (.int z),some (.int (G:Nat)),some (.ref l3),some (.int (ns.getD 2 0)),some (.ref A),some (.ref lf),o9,o10]/\ak H5 H7/\H7 lf=some (.lst vs)/\Paired (PlE K H7) vs pl/\(pl.map (·.g)).Sublist (gs.take i)/\pl.length<=i/\∀p∈pl,vU ((List.range 6).map (ik z)) rs p/\1<=p.last/\p.last<=1000000000/\PlG rs p) ⟨none,none,[],[],rfl,s6,ae,.nil,.slnil,Fv _,fun _ y=>nomatch y⟩ ?_ ?_
 ·rintro i σ H7 hi ⟨o9,o10,vs,pl,rfl,s7,hf7,pp,sub,lpl,po⟩;rw[show(0:Int)+(i:Int)=((i:Nat):Int) by omega];refine dB ?_;intro kD2;have hS7:=(s4.trans (s5.trans s7)).seq hS;obtain⟨g,hg⟩:∃g,gs[i]?=some g:=⟨gs[i]'(by lia),Fy (by omega)⟩;have hat:atI (NV gs) ((i:Nat):Int)=some (.int (g:Nat)):=az (by rw[FO,hg];rfl);have g64:g<2^64:=FE (b1 g (Fs hg)).2 (Gf (by decide) hwh);have tk1:gs.take (i+1)=gs.take i++[g]:=by rw[FJ,hg];rfl
  refine⟨_,rfl,_,rfl,_,_,rfl,rfl,a,ns,8+i,rfl,hS7,?_⟩;refine⟨_,rfl,_,95,5,rfl,by decide,by decide,fun j hj=>⟨_,_,rfl,rfl,_,rfl,?_⟩⟩;refine bw (fun h1=>?_) (fun h1=>?_)
  ·have m0:=Gq (ns.getD 2 0+((i:Nat):Int) / 2*1000003) (show((10:Int)^(9:Int).toNat)≠0 by decide);have m1:=Gr (ns.getD 2 0+((i:Nat):Int) / 2*1000003) (show 0<((10:Int)^(9:Int).toNat) by decide);have e9:((10:Int)^(9:Int).toNat)=1000000000:=(by decide);refine⟨_,rfl,.inl ⟨rfl,_,SqL.of hf7⟩,_,rfl,_,rfl,l3,_,_,_,rfl,rfl,SqL.of (s7 _ _ (s5 _ _ h4)),hat,_,rfl,_,rfl,_,rfl,_,rfl,_,rfl,_,_,rfl,rfl,⟨by decide,by decide⟩,_,_,rfl,rfl,.inr ⟨by decide,by decide⟩,_,_,rfl,rfl,_,_,rfl,rfl,⟨by decide,by decide,by decide⟩,_,_,rfl,rfl,(by show(0:Int)<_;decide),_,_,rfl,rfl,?_⟩;refine⟨g,_,z,_,A,acc,rs,rfl,g64,SqL.of (s7 _ _ h5),Paired.imp (fun _ _=>bS.tk s7.tk) pr,lr,fun v p H8 s8 hp ok nc n2 eg el=>?_⟩;have hf8:=s8 _ _ hf7;have la:=Fx pp;have tk:=TK.lst (o:=.lst (vs++[v])) hf8;refine⟨lf,_,_,rfl,rfl,hf8,aD (by lia),?_⟩;refine⟨_,_,vs++[v],pl++[p],rfl,?_,ae,?_,?_,by rw[Fz,GC];lia,fun x hx=>?_⟩
   ·intro b o e;rw[au (fun y=>by rw[y,hlf]at e;cases e)];exact s8 _ _ (s7 _ _ e)
   ·exact Paired.app (Paired.imp (fun _ _ y=>(y.tk s8.tk).tk tk) pp) (.cons (hp.tk tk) .nil)
   ·rw[tk1,FN];refine List.Sublist.append sub ?_;rw[Gy,eg];exact List.Sublist.refl _
   ·rcases FC.mp hx with y|y
    ·exact po x y
    ·rw[Fq.mp y];refine⟨ok,?_,?_,CB ok br lr nd13 (nc nd13) n2⟩
     ·rw[el];lia
     ·rw[el];lia
  ·refine⟨_,_,vs,pl,rfl,s7,hf7,pp,?_,by lia,po⟩;rw[tk1];exact sub.trans (List.sublist_append_left _ _)
 ·rintro σ H7 ⟨o9,o10,vs,pl,rfl,s7,hf7,pp,sub,lpl,po⟩;have subm:∀p∈pl,p.g∈gs:=fun p hp=>Gw (sub.subset (GZ hp));have O:pK w h ((List.range 6).map (ik z)) rs pl:=⟨fun p hp=>⟨(po p hp).1,(b1 _ (subm p hp)).1,(b1 _ (subm p hp)).2,(po p hp).2.1,(po p hp).2.2.1⟩,by lia,List.Pairwise.sublist (sub.trans (List.take_sublist _ _)) b2,fun p hp=>b3 _ (subm p hp),br,lr⟩;have sH:=s4.trans (s5.trans s7);refine⟨fun σ' H'=>∃(vs:List V)(pl:List Plt),σ'=[some (.ref a),some (.int w),some (.int h),some (.int z),some (.int (G:Nat)),some (.ref l3),some (.int (ns.getD 2 0)),some (.ref A),some (.ref lf),o9,o10]/\ak H H'/\H' lf=some (.lst vs)/\Paired (PlE K H') vs pl/\pK w h ((List.range 6).map (ik z)) rs pl/\∀p∈pl,PlG rs p,?_,?_⟩
  ·refine fU ?_;intro kD3;refine⟨_,rfl,_,89,2,rfl,by decide,by decide,fun j hj=>⟨rfl,_,rfl,?_⟩⟩;refine bw (fun h1=>?_) (fun h1=>⟨vs,pl,rfl,sH,hf7,pp,O,fun p hp=>(po p hp).2.2.2⟩);refine⟨_,rfl,.inl ⟨rfl,_,SqL.of hf7⟩,lf,_,rfl,rfl,hf7,?_⟩;have tk:=TK.lst (o:=.lst vs.reverse) hf7;refine⟨vs.reverse,pl.reverse,rfl,ak.set fr sH,ae,?_,O.rev,fun p hp=>(po p (List.mem_reverse.mp hp)).2.2.2⟩;exact Paired.rev (Paired.imp (fun _ _ y=>y.tk tk) pp)
  ·rintro σ' H8 ⟨vs,pl,rfl,s8,hf8,pp,O,OG⟩;exact⟨_,rfl,q lf vs pl rs _ s8 fr hf8 pp O OG⟩
def kK(K:Frag):Sp:=fun vs H Q _=>∃(l:Addr)(xs:List V)(L:cf)(g:Nat->Option Col)(C:List Col),vs=[.ref l]/\SqL K H l xs/\Paired (fg K H) xs L/\xg g L/\L.length<=300/\C.length<60/\(∀p∈L,p.2∈C)/\∀a R H',ak H H'->StrT K H' a R->bj g R->Q (.ref a) H'
variable(dN:Df P w K mg base 5 "strips_of" ["pairs"] (kK K))
theorem iB:aB ["pairs","grounds","pair"] ["pairs"] (ao (top 9)):=by trivial
include B gZ in
theorem rP(T:Tx K mg "strips_of" (top 9) ["pairs"]):Df P w K mg base 5 "strips_of" ["pairs"] (kK K):=by
 refine T.df iB (by rintro _ _ _ _ ⟨l,xs,L,g,C,rfl,hl,pr,hg,hz,hC,hLC,q⟩;rfl) ?_;rintro f _ A _ s H _ Q E hr ⟨l,xs,L,g,C,rfl,hl,pr,hg,hz,hC,hLC,q⟩;have hu:=hr.units;refine aN ?_;intro kX;refine ah 2 (aj (aE (bU b9 (by rfl) B.tuple boot_tuple (aa (A6 gZ hr (by rfl) B.sorted (aa (bI ["column"] [("grounds",1)] (fb _ ["grounds"]) rfl (by rfl) rfl (by trivial) (by trivial) (aP (by rfl)) (b8 (by rfl)) (mC ⟨rfl,rfl⟩ mN) (mC rfl mN) (bu (by decide)) (CC (pv 1)) (fun _ _ _ _=>aK (i:=0) (show(["column","grounds"]:List Str).Nodup by trivial) rfl (Or.inl rfl) (Or.inr rfl)) (fun _ _ _ _=>bz) (fun _ _ _ _=>(aR (aa (zb (P:=P) (w:=w) (K:=K) rfl rfl rfl hu (pv 1) (pv 0) (fun _ _=>rfl)) (aa (pv 0) ag))))) ag)) ag)))) ?_;intro kR2 pR2;refine ah 1 (ai (cu FZ rfl (cX (pv 0)) (aK (i:=2) iB.nd rfl (by trivial)) (aj (aV (aG qE (aJ aO (pv 2) af (fun _ _=>rfl)) af (aL _)) (aj (wj hu (pv 1) (aJ aO (pv 2) af (fun _ _=>rfl)) (aq B6 (zc hu (pv 1) (aJ aO (pv 2) af (fun _ _=>rfl)) af ⟨rfl,rfl,rfl,rfl⟩) (aJ aO (pv 2) af (fun _ _=>rfl))) rfl)) aI))) pR2) ?_;intro kR1 pR1;refine⟨_,(ai (aw (i:=1) iB.nd rfl (by trivial) tX) pR1),?_⟩;have lx:xs.length=L.length:=Fx pr;intro d hd hsys;have sd:=ak.upd (o:=fT d fQ) hd;have hc0:mm P w K (upd H d (fT d fQ)) d fQ []:=⟨ae,pE P w,hsys,fun t ht=>nomatch ht⟩;generalize (upd H d (fT d fQ))=H1 at sd hc0 ⊢;have subC:∀i,((grp (L.take i)).map (·.1)).length<=C.length:=fun i=>by have ok:=vB (L:=L) (fun p hp=>hg.lt p hp) i;refine Gb ok.nd fun c hc=>?_;obtain⟨p,hp,e⟩:=Fp.mp (ok.sub c hc);rw[<-e];exact hLC p (Gw hp)
 refine⟨_,rfl,l,rfl,⟨_,sd.seq hl⟩,d9 (K:=K) (a:=l) (xs:=xs) (fun i σ H2=>∃(o1:Option V)(ob:Obj)(T:CT),σ=[some (.ref l),some (.ref d),o1]/\ak H H2/\mm P w K H2 d ob T/\TGr T (grp (L.take i))) ⟨none,fQ,[],rfl,sd,hc0,.nil⟩ (fun i σ H2 _ hPz=>hPz.elim fun _ hPz=>hPz.elim fun _ hPz=>hPz.elim fun _ hPz=>(fun e=>e.seq hl) (hPz.2.1)) ?_ ?_⟩
 ·rintro i y σ H2 hi ⟨o1,ob,T,rfl,s2,hcol,tg⟩;refine dB ?_;intro kD1;obtain⟨p,hp,r1,b,rfl,hr0,hb0⟩:=aM pr hi;have hr1:=s2.tup hr0;have hb:=hb0.tk s2.tk;have snoc:=uz hp;refine⟨_,rfl,r1,_,_,_,rfl,rfl,hr1,(az (j:=0) rfl),rfl,_,rfl,?_⟩;refine bw (fun h1=>?_) (fun h1=>?_)
  ·have h0:p.1≠0:=fun z=>by
    rw[z]at h1
    revert h1
    decide
   have lT:T.length<=60:=by
    have l1:T.length=(grp (L.take i)).length:=Fx tg;have l2:=subC i;rw[Fm]at l2
    lia
   refine⟨_,rfl,d,ob,T,rfl,hcol,_,rfl,r1,_,_,_,rfl,rfl,hr1,(az (j:=1) rfl),ob,T,b,p.2,hcol,rfl,hb,?_⟩;rw[yJ tg];refine⟨_,rfl,r1,_,_,_,rfl,rfl,hr1,(az (j:=0) rfl),_,_,rfl,rfl,?_⟩;have eor:V.int (Builtin.bitOr ((gAt (grp (L.take i)) p.2:Nat):Int) ((p.1:Nat):Int))=V.int ((gAt (grp (L.take i)) p.2|||p.1:Nat):Int):=congrArg V.int (qP _ _);refine⟨_,rfl,_,rfl,r1,_,_,_,rfl,rfl,hr1,(az (j:=1) rfl),d,ob,T,b,p.2,rfl,hcol,rfl,hb,by lia,fun o' ho0=>?_⟩;have ho':tF P w o' (jZ T p.2 b (.int ((gAt (grp (L.take i)) p.2|||p.1:Nat):Int))):=(by rw[<-eor];exact ho0);obtain⟨c1,c2,c3,c4⟩:=hcol;have tk:=TK.obj (o:=fT d o') c1;refine⟨_,o',_,rfl,?_,⟨ae,ho',hsys,?_⟩,?_⟩
   ·intro c o e;rw[au (fun z=>by rw[z,hd]at e;cases e)];exact s2 _ _ e
   ·exact xD (P:=fun t=>bJ K _ t.2.1 t.1) (fun t ht=>(c4 t ht).tk tk) (hb.tk tk) (fun t ht _=>ht)
   ·rw[snoc,FA h0];exact AD tg
  ·have h0:p.1=0:=Gn fun z=>h1 (by rw[FY (fun w=>z (by have:=V.int.inj w;lia))];rfl);refine⟨_,ob,T,rfl,s2,hcol,?_⟩;rw[snoc,FH h0];exact tg
 ·rintro σ H2 ⟨o1,ob,T,rfl,s2,hcol,tg⟩;rw[lx,FU]at tg;have ok:=vB (L:=L) (fun p hp=>hg.lt p hp) L.length;have sC:=subC L.length;rw[FU]at ok sC;rw[Fm]at sC;generalize grp L=D at tg ok sC;have lT:T.length=D.length:=Fx tg;obtain⟨c1,c2,c3,c4⟩:=id hcol;refine⟨_,rfl,d,ob,T,rfl,c1,c2,c3,fun A1 hA1=>?_⟩;refine Ey (d:=d) (o:=ob) (T:=T) (fun i acc H3=>ak H2 H3/\H3 A1=some (.lst acc)/\Paired (fg K H3) acc ((D.take i).map fun t=>(t.2,t.1))) ⟨ak.upd hA1,ae,.nil⟩ (fun i acc H3 _ ⟨e,_⟩=>e _ _ c1) ?_ ?_
  ·rintro i t acc H3 hi ⟨s3,h3,pr3⟩;refine dD ?_;intro kq2 kr2;obtain⟨dd,hdd,e1,e2⟩:=yI tg ok.nd hi;have hb3:=(c4 t (Fs hi)).tk s3.tk;have hcol3:mm P w K H3 d ob T:=⟨s3 _ _ c1,c2,c3,fun u hu=>(c4 u hu).tk s3.tk⟩;refine⟨_,rfl,_,rfl,d,ob,T,t.2.1,t.1,_,rfl,hcol3,rfl,hb3,e2,_,rfl,aF rfl,fun r4 hr4=>?_⟩;have s4:=ak.upd (o:=.tup [.int (dd.2:Nat),.ref t.2.1]) hr4;have lacc:acc.length<sizeLine:=by
    rw[Fx pr3,Fm,FK];exact aD (by lia)
   refine⟨s4 _ _ h3,lacc,?_,ae,?_⟩
   ·intro b5 o5 e5;rw[au (fun z=>by rw[z,hA1]at e5;cases e5)];exact s4 _ _ (s3 _ _ e5)
   ·rw[FJ,hdd,F2,FN];have tk2:=TK.lst (o:=.lst (acc++[.ref r4])) (s4 _ _ h3);refine Paired.app (Paired.imp (fun _ _ z=>(z.tk s4.tk).tk tk2) pr3) (.cons (fg.tk tk2 ⟨r4,t.2.1,rfl,SqT.of ae,?_⟩) .nil);have:=hb3.tk s4.tk;rw[e1]at this;exact this
  ·rintro acc H3 ⟨s3,h3,pr3⟩;rw[lT,FU]at pr3;have la:acc.length=D.length:=(by rw[Fx pr3,Fm]);refine⟨A1,acc,(D.map fun t=>(t.2,t.1)).map fun p=>((LM.bW p.1:Nat):Int),rfl,SqL.of h3,by lia,by rw[Fm,Fm,la],?_,fun l4 ys H4 hl4 s4 h4 sk=>?_⟩
   ·intro i v z hv hz H4 s4;obtain⟨p,hp,r5,b5,rfl,h5,_⟩:=aM pr3 hv;rw[FO,hp]at hz;cases hz;obtain⟨t,ht,rfl⟩:=Fp.mp (Fs hp);obtain⟨k1,k2,_⟩:=ok.ok t ht;exact⟨r5,t.2,_,rfl,s4.tup h5,k1,k2,rfl,rfl⟩
   ·obtain⟨R,pr5,pm,so⟩:=uS pr3 sk;refine⟨l4,_,rfl,.inl ⟨SqL.of h4,fun l6 hl6=>?_⟩⟩;have s6:=ak.upd (o:=.tup ys) hl6;exact q l6 R _ (s2.trans (s3.trans (s4.trans s6))) ⟨ys,SqT.of ae,Paired.imp (fun _ _ z=>z.tk (s4.trans s6).tk) pr5⟩ (vA hg ok pm so)
def qv(K:Frag):Sp:=fun vs H Q _=>∃(a:Addr)(n:Int)(R:cf)(g:Nat->Option Col),vs=[.ref a,.int n]/\StrT K H a R/\bj g R/\R.length<60/\(∀p∈R,GoodC p.2)/\∀b R' H',ak H H'->StrT K H' b R'->bj (fun i=>(g i).map (wo n)) R'->Q (.ref b) H'
variable(me:Df P w K mg base 6 "lifted" ["strips","number"] (qv K))
theorem xx:aB ["strips","number"] ["strips","number"] (ao (top 21)):=by trivial
include B dN fC in
theorem xM(T:Tx K mg "lifted" (top 21) ["strips","number"]):Df P w K mg base 6 "lifted" ["strips","number"] (qv K):=by
 refine T.df xx (by rintro _ _ _ _ ⟨a,n,R,g,rfl,hT,hG,hz,hgood,q⟩;rfl) ?_;rintro f _ A _ s H _ Q E hr ⟨a,n,R,g,rfl,hT,hG,hz,hgood,q⟩;refine⟨_,(aj (aE (aA dN hr (aa (bI ["strip"] [("number",1)] (fb _ ["number"]) rfl (by rfl) rfl (by trivial) (by trivial) (aP (by rfl)) (b8 (by rfl)) (mC ⟨rfl,rfl⟩ mN) (mC rfl mN) (bu (by decide)) (eO (pv 0)) (fun _ _ _ _=>aK (i:=0) (show(["strip","number"]:List Str).Nodup by trivial) rfl (Or.inl rfl) (Or.inr rfl)) (fun _ _ _ _=>bz) (fun _ _ _ _=>(aR (aa (aJ (c7 (K:=K) rfl) (pv 0) af (fun _ _=>rfl)) (aa (aA fC hr (aa (aJ (c7 (K:=K) rfl) (pv 0) af (fun _ _=>rfl)) (aa (pv 1) ag))) ag))))) ag)))),?_⟩;obtain⟨vs,ha,pr⟩:=hT;have lv:vs.length=R.length:=Fx pr;refine⟨_,rfl,a,rfl,⟨_,ha⟩,fun A1 hA1=>?_⟩;refine nM (K:=K) (a:=a) (xs:=vs) (fun i acc H2=>ak H H2/\H2 A1=some (.lst acc)/\Paired (fg K H2) acc ((R.take i).map fun p=>(p.1,wo n p.2))) ⟨ak.upd hA1,ae,.nil⟩ (fun i acc H2 _ ⟨e,_⟩=>e.tup ha) ?_ ?_
 ·rintro i y acc H2 hi ⟨s2,h2,pr2⟩;refine dD ?_;intro kq1 kr1;obtain⟨p,hp,r1,b,rfl,h1,hb⟩:=aM pr hi;have gc:=hgood p (Fs hp);have h12:=s2.tup h1;refine⟨_,rfl,r1,_,_,_,rfl,rfl,h12,(az (j:=0) rfl),?_⟩;refine⟨_,rfl,r1,_,_,_,rfl,rfl,h12,(az (j:=1) rfl),_,rfl,b,n,p.2,rfl,hb.tk s2.tk,gc.1,by have:=gc.2.2;lia,fun b3 H3 s3 hc3=>?_⟩;refine⟨aF rfl,fun r4 hr4=>?_⟩;have s4:=ak.upd (o:=.tup [.int (p.1:Nat),.ref b3]) hr4;have lacc:acc.length<sizeLine:=by
   rw[Fx pr2,Fm,FK];exact aD (by lia)
  have s34:=s3.trans s4;refine⟨s34 _ _ h2,lacc,?_,ae,?_⟩
  ·intro b5 o5 e5;rw[au (fun z=>by rw[z,hA1]at e5;cases e5)];exact s34 _ _ (s2 _ _ e5)
  ·rw[FJ,hp,F2,FN];have tk2:=TK.lst (o:=.lst (acc++[.ref r4])) (s34 _ _ h2);exact Paired.app (Paired.imp (fun _ _ z=>(z.tk s34.tk).tk tk2) pr2) (.cons (fg.tk tk2 ⟨r4,b3,rfl,SqT.of ae,hc3.tk s4.tk⟩) .nil)
 ·rintro acc H2 ⟨s2,h2,pr2⟩;rw[lv,FU]at pr2;refine⟨A1,acc,_,_,R.map fun p=>wo n p.2,rfl,SqL.of h2,pr2,uA hG (wo n),by rw[Fm];lia,by rw[Fm];lia,fun p hp=>?_,fun b R' H' s' hT' hG'=>q b R' H' (s2.trans s') hT' hG'⟩;obtain⟨p',hp',rfl⟩:=Fp.mp hp;exact Fp.mpr ⟨p',hp',rfl⟩
def qr(K:Frag):Sp:=fun vs H Q _=>∃(a:Addr)(n h:Int)(R:cf)(g:Nat->Option Col),vs=[.ref a,.int n,.int h]/\StrT K H a R/\bj g R/\R.length<60/\(∀p∈R,GoodC p.2)/\∀b R' H',ak H H'->StrT K H' b R'->bj (fun i=>(g i).map (dI n h)) R'->Q (.ref b) H'
variable(lY:Df P w K mg base 6 "waived" ["strips","number","ahead"] (qr K))
theorem xu:aB ["strips","number","ahead"] ["strips","number","ahead"] (ao (top 24)):=by trivial
include B dN gY in
theorem xI(T:Tx K mg "waived" (top 24) ["strips","number","ahead"]):Df P w K mg base 6 "waived" ["strips","number","ahead"] (qr K):=by
 refine T.df xu (by rintro _ _ _ _ ⟨a,n,h,R,g,rfl,hT,hG,hz,hgood,q⟩;rfl) ?_;rintro f _ A _ s H _ Q E hr ⟨a,n,h,R,g,rfl,hT,hG,hz,hgood,q⟩;refine⟨_,(aj (aE (aA dN hr (aa (bI ["strip"] [("number",1),("ahead",2)] (fb _ ["number","ahead"]) rfl (by rfl) rfl (by trivial) (by trivial) (aP (by rfl)) (b8 (by rfl)) (mC ⟨rfl,rfl⟩ (mC ⟨rfl,rfl⟩ mN)) (mC rfl (mC rfl mN)) (bu (by decide)) (eO (pv 0)) (fun _ _ _ _=>aK (i:=0) (show(["strip","number","ahead"]:List Str).Nodup by trivial) rfl (Or.inl rfl) (Or.inr rfl)) (fun _ _ _ _=>bz) (fun _ _ _ _=>(aR (aa (aJ (c7 (K:=K) rfl) (pv 0) af (fun _ _=>rfl)) (aa (aA gY hr (aa (aJ (c7 (K:=K) rfl) (pv 0) af (fun _ _=>rfl)) (aa (pv 1) (aa (pv 2) ag)))) ag))))) ag)))),?_⟩;obtain⟨vs,ha,pr⟩:=hT;have lv:vs.length=R.length:=Fx pr;refine⟨_,rfl,a,rfl,⟨_,ha⟩,fun A1 hA1=>?_⟩;refine nM (K:=K) (a:=a) (xs:=vs) (fun i acc H2=>ak H H2/\H2 A1=some (.lst acc)/\Paired (fg K H2) acc ((R.take i).map fun p=>(p.1,dI n h p.2))) ⟨ak.upd hA1,ae,.nil⟩ (fun i acc H2 _ ⟨e,_⟩=>e.tup ha) ?_ ?_
 ·rintro i y acc H2 hi ⟨s2,h2,pr2⟩;refine dD ?_;intro kq1 kr1;obtain⟨p,hp,r1,b,rfl,h1,hb⟩:=aM pr hi;have gc:=hgood p (Fs hp);have h12:=s2.tup h1;refine⟨_,rfl,r1,_,_,_,rfl,rfl,h12,(az (j:=0) rfl),?_⟩;refine⟨_,rfl,r1,_,_,_,rfl,rfl,h12,(az (j:=1) rfl),_,rfl,_,rfl,b,n,h,p.2,rfl,hb.tk s2.tk,gc,fun b3 H3 s3 hc3=>?_⟩;refine⟨aF rfl,fun r4 hr4=>?_⟩;have s4:=ak.upd (o:=.tup [.int (p.1:Nat),.ref b3]) hr4;have lacc:acc.length<sizeLine:=by
   rw[Fx pr2,Fm,FK];exact aD (by omega)
  have s34:=s3.trans s4;refine⟨s34 _ _ h2,lacc,?_,ae,?_⟩
  ·intro b5 o5 e5;rw[au (fun z=>by rw[z,hA1]at e5;cases e5)];exact s34 _ _ (s2 _ _ e5)
  ·rw[FJ,hp,F2,FN];have tk2:=TK.lst (o:=.lst (acc++[.ref r4])) (s34 _ _ h2);exact Paired.app (Paired.imp (fun _ _ z=>(z.tk s34.tk).tk tk2) pr2) (.cons (fg.tk tk2 ⟨r4,b3,rfl,SqT.of ae,hc3.tk s4.tk⟩) .nil)
 ·rintro acc H2 ⟨s2,h2,pr2⟩;rw[lv,FU]at pr2;refine⟨A1,acc,_,_,R.map fun p=>dI n h p.2,rfl,SqL.of h2,pr2,uA hG (dI n h),by rw[Fm];omega,by rw[Fm];omega,fun p hp=>?_,fun b R' H' s' hT' hG'=>q b R' H' (s2.trans s') hT' hG'⟩;obtain⟨p',hp',rfl⟩:=Fp.mp hp;exact Fp.mpr ⟨p',hp',rfl⟩
def kT(K:Frag)(mg:Str->Option Value):Sp:=fun vs H Q E=>∃(a C dx sg lp:Addr)(fl:V)(num since n:Int)(c:Nat)(ss:List Str)(xs:List V)(ps:List Plt)(rs:List (List Key)),vs=[.ref a,fl,.ref lp,.non]/\H a=some (.ins C dx (lG num since sg c n))/\uM K mg C/\SqT K H sg (SV ss)/\(∀x∈ss,PyData.canLay0 (.str x)=true)/\SqL K H lp xs/\Paired (PlE K H) xs ps/\(∀p∈ps,PlG rs p)/\c<=64/\zS K mg H Q E (cK ps c n num ss)
variable(g8:DfT P w K mg base (CXn P w) 7 bb "done" ["self","floor","plots","told"] (kT K mg) [.none])
theorem fX:aB ["self","floor","plots","told","plot","found","made"] ["self","floor","plots","told"] (ao gT):=by trivial
include B eQ cV c5 me dH fj bX cg in
theorem rZ(T:TxM K bb "done" "Lift.done" gT ["self","floor","plots","told"] [.none]):DfT P w K mg base (CXn P w) 7 bb "done" ["self","floor","plots","told"] (kT K mg) [.none]:=by
 refine T.dfN fX (by rintro _ _ _ _ ⟨a,C,dx,sg,lp,fl,num,since,n,c,ss,xs,ps,rs,rfl,ha,D,hs,ls,hl,pp,hG,hc,q1,q2⟩;rfl) ?_;rintro f _ A _ s H _ Q E hr ⟨a,C,dx,sg,lp,fl,num,since,n,c,ss,xs,ps,rs,rfl,ha,D,hs,ls,hl,pp,hG,hc,q1,q2⟩;refine aN ?_;intro kX;refine ah 5 (aj (aE (aR (aa (aR (aa (pv 4) ag)) (aa (aR (aa (pv 6) ag)) (aa (aR ag) ag)))))) ?_;intro kR5 pR5;refine ah 4 (ai (aw (i:=6) fX.nd rfl (by trivial) (aR (aa (aJ aO (pv 4) af (fun _ _=>rfl)) (aa (aJ aO (pv 4) af (fun _ _=>rfl)) (aa (aA me hr (aa (aJ aO (pv 4) af (fun _ _=>rfl)) (aa (fq (pv 0) rfl) ag))) (aa (fq (pv 0) rfl) ag)))))) pR5) ?_;intro kR4 pR4;refine ah 3 (ai (dA (rH c5 hr (k9 fun _ _ _ h=>h) (aa (pv 0) (aa (dy (aa (aJ aO (pv 5) af (fun _ _=>rfl)) ag)) ag)))) pR4) ?_;intro kR3 pR3;refine ah 2 (ai (aV (aG hJ (pv 5) cH (aL _)) (aj (ij (W:=RzW H E) rfl (oJ dH hr (aa aS (aa aS (aa aS ag)))) (fun _ _ _ _ _ _ _ I hx ee=>kG I hx ee.1 ee.2))) aI) pR3) ?_;intro kR2 pR2;refine ah 1 (ai (aw (i:=5) fX.nd rfl (by trivial) (aA cV hr (aa (pv 4) (aa (fq (pv 0) rfl) ag)))) pR2) ?_;intro kR1 pR1;refine⟨_,(ai (aw (i:=4) fX.nd rfl (by trivial) (rH eQ hr (k9 fun _ _ _ h=>h) (aa (pv 2) (aa (fq (pv 0) rfl) ag)))) pR1),?_⟩;refine⟨_,rfl,_,rfl,a,C,dx,_,_,rfl,ha,D.pap.cls,D.at',rfl,lp,xs,_,c,rfl,hl,oH pp,hc,fun hne=>?_,fun hno=>?_⟩
 ·rcases ju (c:=c) pp with⟨e,_⟩|⟨v,p,ev,_,hfd,hp,mp⟩
  ·exact absurd e hne
  rw[ev];have G:=hG p mp;refine⟨_,rfl,_,rfl,a,C,dx,_,_,rfl,ha,D.pap.cls,D.bur,rfl,v,p,rs,n,rfl,hp,G.nm,fun H1 s1=>⟨fun vb r on hr bur=>?_,fun hn=>?_⟩⟩
  ·obtain⟨q0,hq0,hr0⟩:=id on;obtain⟨ab,ys,rfl,hb,hat,lh⟩:=iP (G.nm.bur r (G.nm.sub q0 hq0 r hr0)) bur;refine⟨_,rfl,rfl,_,rfl,fM ?_⟩;refine⟨_,rfl,_,rfl,ab,ys,_,_,rfl,rfl,hb,hat,aF rfl,fun l1 hl1=>?_⟩;have s2:=s1.trans (ak.upd (o:=.lst [.str (cz r)]) hl1);refine⟨a,C,dx,sg,l1,_,ss,[cz r],rfl,s2 _ _ ha,D.pap,rfl,rfl,s2.tup hs,SqL.of ae,ls,(fun x hx=>by rw[Fq.mp hx];exact lh),fun hw=>?_,fun x hx=>?_⟩
   ·have hin:cz r∈ss:=by
     by_cases z:cz r∈ss
     ·exact z
     ·rw[hW,FA z]at hw;cases hw
    generalize (upd H1 l1 (.lst [.str (cz r)]))=H2 at s2 ⊢;obtain⟨l,l1',lr,rfl,p1,p2,p3⟩:=hp;obtain⟨f,hf,_⟩:=G.st;have p1':=s2.tup p1;refine⟨_,rfl,l,_,_,_,rfl,rfl,p1',az (j:=0) rfl,_,rfl,l,_,_,_,rfl,rfl,p1',az (j:=1) rfl,_,rfl,l,_,_,_,rfl,rfl,p1',az (j:=2) rfl,_,rfl,a,C,dx,_,_,rfl,s2 _ _ ha,D.pap.cls,D.bur,rfl,lr,n,p.R,f,rfl,p3.tk s2.tk,hf,G.nm.l60,G.nm.good,fun b R' H3 s3 hT' hG'=>?_⟩;have s23:=s2.trans s3;refine⟨_,rfl,a,C,dx,_,_,rfl,s23 _ _ ha,D.pap.cls,D.pap.num,rfl,aF rfl,fun l4 hl4=>?_⟩;have s4:=ak.upd (o:=.tup [.int (p.g:Nat),.ref l1',.ref b,.int num]) hl4;refine⟨_,rfl,aF rfl,fun t1 ht1=>?_⟩;have s5:=ak.upd (o:=.tup [.ref l]) ht1;refine⟨_,rfl,aF rfl,fun t2 ht2=>?_⟩;have s6:=ak.upd (o:=.tup [.ref l4]) ht2;refine⟨aF rfl,fun t3 ht3=>?_⟩;have s7:=ak.upd (o:=.tup []) ht3;refine⟨aF rfl,fun t4 ht4=>?_⟩;have s8:=ak.upd (o:=.tup [.ref t1,.ref t2,.ref t3]) ht4;have s38:=s4.trans (s5.trans (s6.trans (s7.trans s8)));have sZ:=s23.trans s38;have e1:PlE K _ (.ref l) p:=PlE.tk sZ.tk ⟨l,l1',lr,rfl,p1,p2,p3⟩;have e2:PlE K _ (.ref l4) ⟨p.g,p.S,R',num⟩:=PlE.tk (s5.trans (s6.trans (s7.trans s8))).tk ⟨l4,l1',b,rfl,SqT.of ae,p2.tk (s23.trans s4).tk,hT'.tk s4.tk⟩;exact q1 p ⟨p.g,p.S,R',num⟩ _ _ sZ (.does p r f R' hfd on hr hin hf hG') (.tup (SqT.of ae) (.cons (.tup ((s6.trans (s7.trans s8)).tup (SqT.of ae)) (.cons e1.isD .nil)) (.cons (.tup ((s7.trans s8).tup (SqT.of ae)) (.cons e2.isD .nil)) (.cons (.tup (s8.tup (SqT.of ae)) .nil) .nil))))
   ·by_cases z:cz r∈ss
    ·rw[hW,FH z]at hx;cases hx
    ·rw[hW,FA z]at hx;cases hx;exact fun dx' H' s' hd=>q2 _ _ dx' H' (s2.trans s') (.sign p r hfd on hr z) hd
  ·exact⟨_,rfl,rfl,_,rfl,ip ⟨aF rfl,jE bX cg s1 fun dx' H' s' hd=>q2 _ _ dx' H' (s1.trans s') (.burden p hfd hn) hd⟩⟩
 ·rcases ju (c:=c) pp with⟨_,e⟩|⟨v,p,ev,nn,_⟩
  ·exact fun dx' H' s' hd=>q2 _ _ dx' H' s' (.waste e) hd
  ·exact absurd (ev.symm.trans hno) nn
def jT(K:Frag)(mg:Str->Option Value):Sp:=fun vs H Q E=>∃(a C dx sg lp:Addr)(fl:V)(num since n h:Int)(c:Nat)(ss:List Str)(xs:List V)(ps:List Plt)(rs:List (List Key)),vs=[.ref a,fl,.ref lp,.non]/\H a=some (.ins C dx (qW num since sg c n h))/\uM K mg C/\ba K C "ahead"/\SqT K H sg (SV ss)/\(∀x∈ss,PyData.canLay0 (.str x)=true)/\SqL K H lp xs/\Paired (PlE K H) xs ps/\(∀p∈ps,PlG rs p)/\c<=64/\zS K mg H Q E (eU ps c n h num ss)
variable(f9:DfT P w K mg base (CXn P w) 7 aQ "done" ["self","floor","plots","told"] (jT K mg) [.none])
theorem fz:aB ["self","floor","plots","told","plot","passing","made"] ["self","floor","plots","told"] (ao fY):=by trivial
include B eQ lZ c5 lY cV dH dP bX cg in
theorem qh(T:TxM K aQ "done" "Waive.done" fY ["self","floor","plots","told"] [.none]):DfT P w K mg base (CXn P w) 7 aQ "done" ["self","floor","plots","told"] (jT K mg) [.none]:=by
 refine T.dfN fz (by rintro _ _ _ _ ⟨a,C,dx,sg,lp,fl,num,since,n,h,c,ss,xs,ps,rs,rfl,ha,D,na,hs,ls,hl,pp,hG,hc,q1,q2⟩;rfl) ?_;rintro f _ A _ s H _ Q E hr ⟨a,C,dx,sg,lp,fl,num,since,n,h,c,ss,xs,ps,rs,rfl,ha,D,na,hs,ls,hl,pp,hG,hc,q1,q2⟩;have hu:=hr.units;refine aN ?_;intro kX;refine ah 6 (aj (aE (aR (aa (aR (aa (pv 4) ag)) (aa (aR (aa (pv 6) ag)) (aa (aR ag) ag)))))) ?_;intro kR6 pR6;refine ah 5 (ai (aw (i:=6) fz.nd rfl (by trivial) (aR (aa (aJ aO (pv 4) af (fun _ _=>rfl)) (aa (aJ aO (pv 4) af (fun _ _=>rfl)) (aa (aA lY hr (aa (aJ aO (pv 4) af (fun _ _=>rfl)) (aa (fq (pv 0) rfl) (aa (fq (pv 0) rfl) ag)))) (aa (fq (pv 0) rfl) ag)))))) pR6) ?_;intro kR5 pR5;refine ah 4 (ai (dA (rH c5 hr (k9 fun _ _ _ h=>h) (aa (pv 0) (aa (bI ["burden"] [] (fb _ []) rfl (by rfl) rfl (by trivial) (by trivial) (aP (by rfl)) (b8 (by rfl)) mN mN (bu (by decide)) (eO (pv 5)) (fun _ _ _ _=>aK (i:=0) (show(["burden"]:List Str).Nodup by trivial) rfl (Or.inl rfl) (Or.inr rfl)) (fun _ _ _ _=>bz) (fun _ _ _ _=>(aJ (c7 (K:=K) rfl) (pv 0) af (fun _ _=>rfl)))) ag)))) pR5) ?_;intro kR4 pR4;refine ah 3 (ai (aV (aG (rN hu) (pv 5) (aR ag) (aL _)) (aj (ij (W:=RzW H E) rfl (oJ dH hr (aa aS (aa aS (aa aS ag)))) (fun _ _ _ _ _ _ _ I hx ee=>kG I hx ee.1 ee.2))) aI) pR4) ?_;intro kR3 pR3;refine ah 2 (ai (aw (i:=5) fz.nd rfl (by trivial) (aA lZ hr (aa (aJ aO (pv 4) af (fun _ _=>rfl)) (aa (fq (pv 0) rfl) (aa (fq (pv 0) rfl) ag))))) pR3) ?_;intro kR2 pR2;refine ah 1 (ai (aV ((nF (aG hJ (aA cV hr (aa (pv 4) (aa (fq (pv 0) rfl) ag))) cH (aL _)) (jd (aG hJ (aA cV hr (aa (pv 4) (aa (fq (pv 0) rfl) ag))) cH (aL _)))).pt) (aj (ij (W:=RzW H E) rfl (oJ dH hr (aa aS (aa aS (aa aS ag)))) (fun _ _ _ _ _ _ _ I hx ee=>kG I hx ee.1 ee.2))) aI) pR2) ?_;intro kR1 pR1;refine⟨_,(ai (aw (i:=4) fz.nd rfl (by trivial) (rH eQ hr (k9 fun _ _ _ h=>h) (aa (pv 2) (aa (fq (pv 0) rfl) ag)))) pR1),?_⟩;refine⟨_,rfl,_,rfl,a,C,dx,_,_,rfl,ha,D.pap.cls,D.at',rfl,lp,xs,_,c,rfl,hl,oH pp,hc,fun hne=>?_,fun hno=>?_⟩
 ·rcases ju (c:=c) pp with⟨e,_⟩|⟨v,p,ev,_,hfd,hp,mp⟩
  ·exact absurd e hne
  rw[ev];have G:=hG p mp;have burs:∀{r:List Key},OnR p.R r->du r:=fun⟨q0,hq0,hr0⟩=>G.nm.bur _ (G.nm.sub q0 hq0 _ hr0);refine⟨_,rfl,_,rfl,a,C,dx,_,_,rfl,ha,D.pap.cls,D.bur,rfl,v,p,rs,n,rfl,hp,G.nm,fun H1 s1=>⟨fun vb r on hr bur=>?_,fun hn=>?_⟩⟩
  ·obtain⟨ab,_,rfl,_⟩:=iP (burs on) bur;refine⟨rfl,_,rfl,fM ?_⟩;refine⟨_,rfl,_,rfl,a,C,dx,_,_,rfl,s1 _ _ ha,D.pap.cls,na,rfl,v,p,rs,h,rfl,hp.tk s1.tk,G.nm,fun H2 s2=>⟨fun vb' r' on' hr' bur'=>?_,fun hn=>?_⟩⟩
   ·obtain⟨ab',_,rfl,_⟩:=iP (burs on') bur';refine⟨rfl,_,rfl,fM ?_⟩;replace s2:=s1.trans s2;obtain⟨l,l1',lr,rfl,p1,p2,p3⟩:=hp;obtain⟨f,hf,_⟩:=G.st;refine⟨_,rfl,l,_,_,_,rfl,rfl,s2.tup p1,az (j:=2) rfl,_,rfl,a,C,dx,_,_,rfl,s2 _ _ ha,D.pap.cls,D.bur,rfl,_,rfl,a,C,dx,_,_,rfl,s2 _ _ ha,D.pap.cls,na,rfl,lr,n,h,p.R,rs,rfl,p3.tk s2.tk,G.nm.l64,G.nm.sub,G.nm.l59,G.nm.bur,G.nm.nd,fun b T H3 s3 hB hT=>?_⟩;replace s3:=s2.trans s3;have onT:∀r∈T,du r:=fun r hr=>by
     obtain⟨c',hc',hr'⟩:=(hB.mem r).mp hr;obtain⟨q',hq',rfl⟩:=Fp.mp hc';exact G.nm.bur r (G.nm.sub q' hq' r (iG hr'))
    refine⟨_,rfl,aF rfl,fun e0 he0=>?_⟩;have sE:=ak.upd (o:=.tup []) he0;have hE:bJ K (upd H3 e0 (.tup [])) e0 []:=bJ.of (SqT.of ae) .nil;have s4:=s3.trans sE;have hT4:=hT.tk sE.tk;generalize (upd H3 e0 (.tup []))=H4 at sE hE s4 hT4 ⊢;refine⟨iw T,iw [],hT4.isD,hE.isD,gV T hT4.1,gV [] hE.1,FW (lV []) (by decide),_,rfl,?_⟩;rw[sV];refine bw (fun h1=>?_) (fun h1=>?_)
    ·have e:T=[]:=F7 h1;subst e;exact⟨aF rfl,jE bX cg s4 fun dx' H' s' hd=>q2 _ _ dx' H' (s4.trans s') (.rank p r r' hfd on hr on' hr' hB) hd⟩
    have ne:T≠[]:=fun z=>h1 (FQ z);obtain⟨ys,hy,py⟩:=hT4.bur;have ly:ys.length=T.length:=Fx py;refine⟨_,rfl,_,rfl,b,rfl,⟨_,hy⟩,fun A1 hA1=>?_⟩;have sA:∀o:HO,ak H4 (upd H4 A1 o):=fun o=>ak.upd hA1
    have lT:T.length<=59:=vN hB (fun c' hc' r hr=>by
     obtain⟨q',hq',rfl⟩:=Fp.mp hc'
     exact G.nm.sub q' hq' r (iG hr)) G.nm.l59
    refine nM (K:=K) (a:=b) (xs:=ys) (fun i acc H5=>H5=upd H4 A1 (.lst acc)/\acc=SV ((T.take i).map cz)) ⟨rfl,rfl⟩ (fun i acc H5 _ ⟨e,_⟩=>by rw[e];exact(sA _).tup hy) ?_ ?_
    ·rintro i y acc H5 hi ⟨rfl,rfl⟩;refine dD ?_;intro kq1 kr1;obtain⟨rr,hrr,bur2⟩:=aM py hi;obtain⟨ab2,ys2,rfl,hb2,hat2,_⟩:=iP (onT rr (Fs hrr)) bur2;refine⟨_,rfl,ab2,ys2,_,_,rfl,rfl,(sA _).tup hb2,hat2,ae,?_,by rw[bc],?_⟩
     ·rw[show(SV ((T.take i).map cz)).length=(T.take i).length by simp[SV],FK];exact aD (by lia)
     ·rw[FJ,hrr,F2];simp[SV]
    rintro acc H5 ⟨rfl,rfl⟩;rw[ly,FU];have s5:=s4.trans (sA (.lst (SV (T.map cz))));have lyT:∀x∈T.map cz,PyData.canLay0 (.str x)=true:=fun x hx=>by obtain⟨rr,hrr,rfl⟩:=Fp.mp hx;obtain⟨vv,_,hv⟩:=Paired.right py hrr;obtain⟨_,_,_,_,_,hh⟩:=iP (onT rr hrr) hv;exact hh
    refine⟨a,C,dx,sg,A1,_,ss,T.map cz,rfl,s5 _ _ ha,D.pap,rfl,rfl,s5.tup hs,SqL.of ae,ls,lyT,fun hw=>?_,fun x hx=>fun dx' H' s' hd=>q2 _ _ dx' H' (s5.trans s') (.sign p r r' T x hfd on hr on' hr' hB hx) hd⟩;generalize (upd H4 A1 (.lst (SV (T.map cz))))=H5 at s5 ⊢;have p1':=s5.tup p1;refine⟨_,rfl,l,_,_,_,rfl,rfl,p1',az (j:=0) rfl,_,rfl,l,_,_,_,rfl,rfl,p1',az (j:=1) rfl,_,rfl,l,_,_,_,rfl,rfl,p1',az (j:=2) rfl,_,rfl,a,C,dx,_,_,rfl,s5 _ _ ha,D.pap.cls,D.bur,rfl,_,rfl,a,C,dx,_,_,rfl,s5 _ _ ha,D.pap.cls,na,rfl,lr,n,h,p.R,f,rfl,p3.tk s5.tk,hf,G.nm.l60,G.nm.good,fun b R' H3 s3 hT' hG'=>?_⟩;have s23:=s5.trans s3;refine⟨_,rfl,a,C,dx,_,_,rfl,s23 _ _ ha,D.pap.cls,D.pap.num,rfl,aF rfl,fun l4 hl4=>?_⟩;have s4:=ak.upd (o:=.tup [.int (p.g:Nat),.ref l1',.ref b,.int num]) hl4;refine⟨_,rfl,aF rfl,fun t1 ht1=>?_⟩;have s5:=ak.upd (o:=.tup [.ref l]) ht1;refine⟨_,rfl,aF rfl,fun t2 ht2=>?_⟩;have s6:=ak.upd (o:=.tup [.ref l4]) ht2;refine⟨aF rfl,fun t3 ht3=>?_⟩;have s7:=ak.upd (o:=.tup []) ht3;refine⟨aF rfl,fun t4 ht4=>?_⟩;have s8:=ak.upd (o:=.tup [.ref t1,.ref t2,.ref t3]) ht4;have s38:=s4.trans (s5.trans (s6.trans (s7.trans s8)));have sZ:=s23.trans s38;have e1:PlE K _ (.ref l) p:=PlE.tk sZ.tk ⟨l,l1',lr,rfl,p1,p2,p3⟩;have e2:PlE K _ (.ref l4) ⟨p.g,p.S,R',num⟩:=PlE.tk (s5.trans (s6.trans (s7.trans s8))).tk ⟨l4,l1',b,rfl,SqT.of ae,p2.tk (s23.trans s4).tk,hT'.tk s4.tk⟩;exact q1 p ⟨p.g,p.S,R',num⟩ _ _ sZ (.does p r r' T f R' hfd on hr on' hr' hB ne hw hf hG') (.tup (SqT.of ae) (.cons (.tup ((s6.trans (s7.trans s8)).tup (SqT.of ae)) (.cons e1.isD .nil)) (.cons (.tup ((s7.trans s8).tup (SqT.of ae)) (.cons e2.isD .nil)) (.cons (.tup (s8.tup (SqT.of ae)) .nil) .nil))))
   ·exact⟨rfl,_,rfl,ip ⟨aF rfl,jE bX cg (s1.trans s2) fun dx' H' s' hd=>q2 _ _ dx' H' ((s1.trans s2).trans s') (.burden p hfd (.inr hn)) hd⟩⟩
  ·exact⟨rfl,_,rfl,ip ⟨aF rfl,jE bX cg s1 fun dx' H' s' hd=>q2 _ _ dx' H' (s1.trans s') (.burden p hfd (.inl hn)) hd⟩⟩
 ·rcases ju (c:=c) pp with⟨_,e⟩|⟨v,p,ev,nn,_⟩
  ·exact fun dx' H' s' hd=>q2 _ _ dx' H' s' (.waste e) hd
  ·exact absurd (ev.symm.trans hno) nn
def nj(K:Frag)(mg:Str->Option Value):Sp:=fun vs H Q _=>∃(a C dx sg lp:Addr)(fl:V)(fs:List (Str×V))(R:kE->Prop)(num since n:Int)(c:Nat)(ss:List Str)(xs:List V)(ps:List Plt)(rs:List (List Key)),vs=[.ref a,fl,.ref lp]/\H a=some (.ins C dx fs)/\uM K mg C/\((mg "Lift"=some (.ref C)/\fs=lG num since sg c n/\R=cK ps c n num ss)\/∃h,mg "Waive"=some (.ref C)/\ba K C "ahead"/\fs=qW num since sg c n h/\R=eU ps c n h num ss)/\SqT K H sg (SV ss)/\(∀x∈ss,PyData.canLay0 (.str x)=true)/\SqL K H lp xs/\Paired (PlE K H) xs ps/\(∀p∈ps,PlG rs p)/\c<=64/\∀o v H',ak H H'->R o->IsD K H' (outD o) v->Q v H'
variable(gH:Df P w K mg base 8 "_law_done" ["_law_paper","_law_floor","_law_plots"] (nj K mg))
theorem fJ:aB ["_law_paper","_law_floor","_law_plots","_law_found","e"] ["_law_paper","_law_floor","_law_plots"] (ao (top 57)):=by trivial
include B g8 f9 fj dP bX jr eX fK in
theorem uf(T:Tx K mg "_law_done" (top 57) ["_law_paper","_law_floor","_law_plots"]):Df P w K mg base 8 "_law_done" ["_law_paper","_law_floor","_law_plots"] (nj K mg):=by
 refine T.df fJ (by rintro _ _ _ _ ⟨a,C,dx,sg,lp,fl,fs,R,num,since,n,c,ss,xs,ps,rs,rfl,ha,D,hR,hs,ls,hl,pp,hG,hc,q⟩;rfl) ?_;rintro f _ A _ s H _ Q E hr ⟨a,C,dx,sg,lp,fl,fs,R,num,since,n,c,ss,xs,ps,rs,rfl,ha,D,hR,hs,ls,hl,pp,hG,hc,q⟩;refine aN ?_;intro kX;refine ah 2 (aj (aE (pv 3))) ?_;intro kR2 pR2;refine ah 1 (ai (AZ (m:=4) fJ.nd rfl rfl (fun _ _=>(aj (aw (i:=3) fJ.nd rfl (by trivial) (aR (aa aS (aa (y9 (CX:=CXn P w) (dvs:=[V.non]) (ds:=[Value.none]) (P:=P) (w:=w) (K:=K) (mg:=mg) (base:=base) rfl rfl rfl rfl rfl ["self","floor","plots","told"] 7 (pv 0) (hr.mono (by decide)) (.cons rfl .nil) (xH fun _ _ _ h=>h) (aa (pv 1) (aa (pv 2) ag))) ag)))))) (fun _=>(aj (aw (i:=3) fJ.nd rfl (by trivial) (aR (aa aS (aa (wz (K:=K) rfl (pv 4)) (aa (wz (K:=K) rfl (pv 4)) ag)))))))) pR2) ?_;intro kR1 pR1;refine⟨_,(ai (aw (i:=3) fJ.nd rfl (by trivial) cH) pR1),?_⟩;rcases hR with⟨mC,rfl,rfl⟩|⟨h,mC,na,rfl,rfl⟩
 ·have eC:C=bb:=by
   have:=fj.mg;rw[mC]at this;cases this;rfl
  subst eC;refine⟨_,rfl,a,C,dx,_,_,rfl,ha,D.pap.cls,g8.up (by decide),rfl,_,rfl,_,rfl,a,C,dx,sg,lp,fl,num,since,n,c,ss,xs,ps,rs,rfl,ha,D,hs,ls,hl,pp,hG,hc,fun p p' v H' s' hr' hd=>?_,fun w x dx' H' s' hr' hd=>?_⟩
  ·refine⟨aF rfl,fun t ht=>?_⟩;have s2:=ak.upd (o:=.tup [.str "does",v]) ht;exact⟨_,rfl,q (.does p p') _ _ (s'.trans s2) hr' (.tup (SqT.of ae) (.cons (.str _) (.cons (IsD.same s2 hd) .nil)))⟩
  ·refine⟨aT,pF bX,jr,fun y σ' hσ hy=>?_⟩;obtain⟨o0,o1,o2,o3,o4,rfl⟩:=st5 hσ;have hd2:(upd H' y (XN y aT (some dx'))) dx'=some (XD dx' [("who",.str x),("word",.str w)]):=by
    rw[au (fun z=>by rw[z,hy]at hd;cases hd)];exact hd
   refine⟨_,rfl,y,aT,dx',_,_,rfl,ae,hd2,eX,rfl,_,rfl,y,aT,dx',_,_,rfl,ae,hd2,fK,rfl,aF rfl,fun t ht=>?_⟩;have s2:=(ak.upd (o:=XN y aT (some dx')) hy).trans (ak.upd (o:=.tup [.str "falls",.str w,.str x]) ht);exact⟨_,rfl,q (.falls w x) _ _ (s'.trans s2) hr' (.tup (SqT.of ae) (.cons (.str _) (.cons (.str _) (.cons (.str _) .nil))))⟩
 ·have eC:C=aQ:=by
   have:=dP.mg;rw[mC]at this;cases this;rfl
  subst eC;refine⟨_,rfl,a,C,dx,_,_,rfl,ha,D.pap.cls,f9.up (by decide),rfl,_,rfl,_,rfl,a,C,dx,sg,lp,fl,num,since,n,h,c,ss,xs,ps,rs,rfl,ha,D,na,hs,ls,hl,pp,hG,hc,fun p p' v H' s' hr' hd=>?_,fun w x dx' H' s' hr' hd=>?_⟩
  ·refine⟨aF rfl,fun t ht=>?_⟩;have s2:=ak.upd (o:=.tup [.str "does",v]) ht;exact⟨_,rfl,q (.does p p') _ _ (s'.trans s2) hr' (.tup (SqT.of ae) (.cons (.str _) (.cons (IsD.same s2 hd) .nil)))⟩
  ·refine⟨aT,pF bX,jr,fun y σ' hσ hy=>?_⟩;obtain⟨o0,o1,o2,o3,o4,rfl⟩:=st5 hσ;have hd2:(upd H' y (XN y aT (some dx'))) dx'=some (XD dx' [("who",.str x),("word",.str w)]):=by
    rw[au (fun z=>by rw[z,hy]at hd;cases hd)];exact hd
   refine⟨_,rfl,y,aT,dx',_,_,rfl,ae,hd2,eX,rfl,_,rfl,y,aT,dx',_,_,rfl,ae,hd2,fK,rfl,aF rfl,fun t ht=>?_⟩;have s2:=(ak.upd (o:=XN y aT (some dx')) hy).trans (ak.upd (o:=.tup [.str "falls",.str w,.str x]) ht);exact⟨_,rfl,q (.falls w x) _ _ (s'.trans s2) hr' (.tup (SqT.of ae) (.cons (.str _) (.cons (.str _) (.cons (.str _) .nil))))⟩
def kQ(K:Frag):Sp:=spA K 11
variable(fO:Df P w K mg base 12 "_law_alike" ["_law_found","_law_due"] (kQ K))
theorem kU:aB ["_law_found","_law_due","_law_k"] ["_law_found","_law_due"] (ao (top 54)):=by trivial
include B cU in
theorem rg(T:Tx K mg "_law_alike" (top 54) ["_law_found","_law_due"]){m k:Nat}(hk:1<=k)(Ex:Df P w K mg base k "_law_alike" ["_law_found","_law_due"] (spA K m)):Df P w K mg base (k+1) "_law_alike" ["_law_found","_law_due"] (spA K (m+1)):=by
 refine T.df kU (by rintro _ _ _ _ ⟨v,u,d,rfl,hv,hu',pl,dp,q⟩;rfl) ?_;rintro f _ A _ s H _ Q E hr ⟨v,u,d,rfl,hv,hu',pl,dp,q⟩;refine aN ?_;intro kX;refine ah 3 (aj (aE (rK (aA cU hr (aa (pv 0) ag) (hj:=by lia)) (mx (cY cN (pv 0) (pv 1) (aL _)))))) ?_;intro kR3 pR3;refine ah 2 (ai (aV (eY (aY jI (by rfl) B.isinstance boot_isinstance (aa (pv 1) (aa (jA (x:="str") (v:=.ty "str") (by rfl) B.str boot_str rfl) ag)))) (aj (aE (rK (aY jI (by rfl) B.isinstance boot_isinstance (aa (pv 0) (aa (jA (x:="str") (v:=.ty "str") (by rfl) B.str boot_str rfl) ag))) (mx (cY cN (pv 0) (pv 1) (aL _)))))) aI) pR3) ?_;intro kR2 pR2;refine ah 1 (ai (aV (aG hJ (pv 1) cH (aL _)) (aj (aE (cY hJ (pv 0) cH (aL _)))) aI) pR2) ?_;intro kR1 pR1;refine⟨_,(ai (aV (eY (aY jI (by rfl) B.isinstance boot_isinstance (aa (pv 1) (aa (jA (x:="tuple") (v:=.ty "tuple") (by rfl) B.tuple boot_tuple rfl) ag)))) (ai (aV ((nF (rF (eY (aY jI (by rfl) B.isinstance boot_isinstance (aa (pv 0) (aa (jA (x:="tuple") (v:=.ty "tuple") (by rfl) B.tuple boot_tuple rfl) ag))))) (jd (aG qE (aY bO (by rfl) B.len G2 (aa (pv 0) ag)) (aY bO (by rfl) B.len G2 (aa (pv 1) ag)) (aL _)))).pt) (aj (aE tY)) aI) (ai (cu FZ rfl (bL (by rfl) B.range (aa (aY bO (by rfl) B.len G2 (aa (pv 1) ag)) ag)) (aK (i:=2) kU.nd rfl (by trivial)) (aj (aV (rF (eY (aA Ex hr (aa (aJ aO (pv 0) (pv 2) (fun _ _=>rfl)) (aa (aJ aO (pv 1) (pv 2) (fun _ _=>rfl)) ag)) (hj:=by omega)))) (aj (aE tY)) aI))) (aj (aE tY)))) aI) pR1),?_⟩;have kt:kitOne K (.type "tuple") (.type "tuple")=some true:=by kernel_rfl
 cases pl with
 |tup ln pls=>
  obtain⟨a,vs,rfl,ha,hvs⟩:∃a vs,v=.ref a/\SqT K H a vs/\d5 K H _ vs:=by
   cases hv with
   |tup h1 h2=>exact⟨_,_,rfl,h1,h2⟩
  obtain⟨b,us,rfl,hb,hus⟩:∃b us,u=.ref b/\SqT K H b us/\d5 K H _ us:=by
   cases hu' with
   |tup h1 h2=>exact⟨_,_,rfl,h1,h2⟩
  have lv:=hvs.len;have lu:=hus.len;refine⟨_,rfl,.inr ⟨_,.ty "tuple",b,us,true,_,rfl,rfl,hb,rfl,(fun _ h=>h),kt,_,rfl,ip ?_⟩⟩;refine⟨_,rfl,.inr ⟨_,.ty "tuple",a,vs,true,_,rfl,rfl,ha,rfl,(fun _ h=>h),kt,_,rfl,fM ?_⟩⟩;refine⟨_,rfl,a,vs,rfl,.inr ha,_,rfl,b,us,rfl,.inr hb,rfl,_,rfl,?_⟩;refine bw (fun h=>absurd h (by rw[lv,lu];simp)) (fun _=>?_);have small:us.length<=1000:=by lia
  refine⟨_,rfl,b,us,rfl,.inr hb,_,rfl,by lia,by lia,gb (lo:=0) (fun i σ H2=>∃o2:Option V,σ=[some (.ref a),some (.ref b),o2]/\H2=H) ⟨none,rfl,rfl⟩ ?_ ?_⟩
  ·rintro i σ H2 hi ⟨o2,rfl,rfl⟩;refine dB ?_;intro kD1;have iu:i<us.length:=(by lia);obtain⟨x,hx⟩:∃x,vs[i]?=some x:=⟨vs[i]'(by lia),by simp⟩;obtain⟨y,hy⟩:∃y,us[i]?=some y:=⟨us[i]'iu,by simp⟩;obtain⟨d1,e1,hd1⟩:=hvs.at hx;obtain⟨d2,e2,hd2⟩:=hus.at hy;rw[e1]at e2;cases e2;have ax:atI vs (0+(i:Int))=some x:=(by rw[show(0:Int)+(i:Int)=((i:Nat):Int) by omega];exact az hx);have ay:atI us (0+(i:Int))=some y:=(by rw[show(0:Int)+(i:Int)=((i:Nat):Int) by omega];exact az hy);refine⟨_,rfl,_,rfl,a,_,_,_,rfl,rfl,ha,ax,_,rfl,_,rfl,b,_,_,_,rfl,rfl,hb,ay,x,y,_,rfl,hd1,hd2,pls.at e1,?_,_,rfl,fM ⟨_,rfl,rfl⟩⟩;have:=Dq e1;have dp':PyData.depthAll _+1<m+1:=dp
   lia
  ·rintro σ H2 ⟨o2,rfl,rfl⟩;exact q
 |non=>
  cases hv;cases hu';have k0:kitOne K (.type "NoneType") (.type "tuple")=some false:=by kernel_rfl
  refine⟨_,rfl,.inl ⟨_,_,_,_,rfl,gI.non,k0,_,rfl,fM ?_⟩⟩;refine⟨_,rfl,rfl,_,rfl,ip ?_⟩;exact⟨_,rfl,rfl,q⟩
 |str x=>
  cases hv;cases hu';have k0:kitOne K (.type "str") (.type "tuple")=some false:=by kernel_rfl
  have k1:kitOne K (.type "str") (.type "str")=some true:=by kernel_rfl
  refine⟨_,rfl,.inl ⟨_,_,_,_,rfl,gI.str x,k0,_,rfl,fM ?_⟩⟩;refine⟨_,rfl,rfl,_,rfl,fM ?_⟩;refine⟨_,rfl,.inl ⟨_,_,_,_,rfl,gI.str x,k1,_,rfl,ip ?_⟩⟩;refine⟨_,rfl,.inl ⟨_,_,_,_,rfl,gI.str x,k1,_,rfl,ip ?_⟩⟩;refine⟨_,rfl,_,rfl,rfl,?_⟩;rw[FQ rfl];exact q
 |int i=>
  cases hv;cases hu';have k0:kitOne K (.type "int") (.type "tuple")=some false:=by kernel_rfl
  have k1:kitOne K (.type "int") (.type "str")=some false:=by kernel_rfl
  refine⟨_,rfl,.inl ⟨_,_,_,_,rfl,gI.int i,k0,_,rfl,fM ?_⟩⟩;refine⟨_,rfl,rfl,_,rfl,fM ?_⟩;refine⟨_,rfl,.inl ⟨_,_,_,_,rfl,gI.int i,k1,_,rfl,fM ?_⟩⟩;refine⟨_,rfl,_,_,rfl,gI.int i,_,rfl,ip ?_⟩;refine⟨_,rfl,_,rfl,rfl,?_⟩;rw[FQ rfl];exact q
include B cU in
theorem k7(T:Tx K mg "_law_alike" (top 54) ["_law_found","_law_due"]):∀m:Nat,Df P w K mg base (m+1) "_law_alike" ["_law_found","_law_due"] (spA K m)
 | 0=>T.dfF (fun vs H Q E ⟨_,_,_,_,_,_,_,dp,_⟩=>absurd dp (Nat.not_lt_zero _))
 |m+1=>rg B cU T (by omega) (k7 T m)
include B cU in
theorem rX(T:Tx K mg "_law_alike" (top 54) ["_law_found","_law_due"]):Df P w K mg base 12 "_law_alike" ["_law_found","_law_due"] (kQ K):=k7 B cU T 11
def jP(K:Frag)(mg:Str->Option Value):Sp:=fun vs H Q _=>∃(a lp:Addr)(ms:List Int)(w h:Nat)(way:Int)(xs:List V)(ps:List Plt)(rs:List (List Key)),vs=[.ref a,.ref lp,.int w,.int h,.int way]/\SqL K H a (ms.map V.int)/\(0<w/\w<=8/\0<h/\h<=8)/\SqL K H lp xs/\Paired (PlE K H) xs ps/\pK w h ((List.range 6).map (ik way)) rs ps/\(∀p∈ps,PlG rs p)/\∀H',ak H H'->Q (.bl true) H'
variable(f6:Df P w K mg base 13 "_law_agrees" ["_law_script","_law_plots","_law_wide","_law_high","_law_way"] (jP K mg))
theorem bf:aB ["_law_script","_law_plots","_law_wide","_law_high","_law_way","_law_row","_law_at_here","_law_plot","_law_pool","_law_one","_law_other","_law_paper","_law_due","_law_handed","_law_found"] ["_law_script","_law_plots","_law_wide","_law_high","_law_way"] (ao (top 65)):=by trivial
include B iN mf bx gG gH fO aH bD e8 eF eJ d4 iQ cy fj dP sO n6 tm n9 cQ dw cP ft cR cC cO cB eW cD cw eE dZ in
theorem qd(T:Tx K mg "_law_agrees" (top 65) ["_law_script","_law_plots","_law_wide","_law_high","_law_way"]):Df P w K mg base 13 "_law_agrees" ["_law_script","_law_plots","_law_wide","_law_high","_law_way"] (jP K mg):=by
 refine T.df bf (by rintro _ _ _ _ ⟨a,lp,ms,w,h,way,xs,ps,rs,rfl,hS,⟨hw,hw8,hh,hh8⟩,hl,pp,O,hG,q⟩;rfl) ?_;rintro f _ A _ s H _ Q E hr ⟨a,lp,ms,w,h,way,xs,ps,rs,rfl,hS,⟨hw,hw8,hh,hh8⟩,hl,pp,O,hG,q⟩;have hu:=hr.units;refine aN ?_;intro kX;refine ah 10 (aj (aE (aA fO hr (aa (aA gH hr (aa (pv 11) (aa (aR (aa (pv 2) (aa (pv 3) ag))) (aa (bU (tj rfl) (by rfl) B.list boot_list (aa (bU qi (by rfl) iQ (by trivial) (aa (pv 1) ag)) ag)) ag)))) (aa (pv 12) ag))))) ?_;intro kR10 pR10;refine ah 9 (ai (aV ((nF (aG (ze hu) (pv 13) (pv 1) (aL _)) (jd (rF (eY (aA fO hr (aa (pv 14) (aa (pv 12) ag))))))).pt) (aj (aE tY)) aI) pR10) ?_;intro kR9 pR9;refine ah 8 (ai (aw (i:=14) bf.nd rfl (by trivial) (aA gH hr (aa (pv 11) (aa (aR (aa (pv 2) (aa (pv 3) ag))) (aa (pv 13) ag))))) pR9) ?_;intro kR8 pR8;refine ah 7 (ai (aw (i:=13) bf.nd rfl (by trivial) (bU sY (by rfl) B.list boot_list (aa (pv 1) ag))) pR8) ?_;intro kR7 pR7;refine ah 6 (bF (aV ((nF (aG cN (aq bh (aA aH hr (aa (pv 0) (aa af ag))) af) af (aL _)) (jd (aG cN (pv 9) (pv 10) (aL _)))).pt) (ai (aw (i:=11) bf.nd rfl (by trivial) (tV sO eJ hr (aa (aJ aO (pv 5) af (fun _ _=>rfl)) (aa (aJ aO (pv 5) af (fun _ _=>rfl)) (aa (aJ aO (pv 5) af (fun _ _=>rfl)) (aa (pv 6) (aa (pv 9) ag))))))) (aj (aw (i:=12) bf.nd rfl (by trivial) (aA e8 hr (aa (aq fA (aq fA (aR (aa aS ag)) (pv 5)) (aR (aa (pv 6) (aa (pv 9) ag)))) (aa (pv 1) ag)))))) (ai (aw (i:=11) bf.nd rfl (by trivial) (tV n6 d4 hr (aa (aJ aO (pv 5) af (fun _ _=>rfl)) (aa (aJ aO (pv 5) af (fun _ _=>rfl)) (aa (aJ aO (pv 5) af (fun _ _=>rfl)) (aa (pv 6) (aa (pv 9) (aa (pv 10) ag)))))))) (aj (aw (i:=12) bf.nd rfl (by trivial) (aA eF hr (aa (aq fA (aq fA (aR (aa aS ag)) (pv 5)) (aR (aa (pv 6) (aa (pv 9) (aa (pv 10) ag))))) (aa (pv 1) ag))))))) pR7) ?_;intro kR6 pR6;refine ah 5 (ai (aw (i:=10) bf.nd rfl (by trivial) (aA gG hr (aa (aA aH hr (aa (pv 0) (aa af ag))) (aa (pv 7) (aa (pv 8) ag))))) pR6) ?_;intro kR5 pR5;refine ah 4 (ai (aw (i:=9) bf.nd rfl (by trivial) (aA gG hr (aa (aA aH hr (aa (pv 0) (aa af ag))) (aa (pv 7) (aa (pv 8) ag))))) pR5) ?_;intro kR4 pR4;refine ah 3 (ai (jx (i:=8) bf.nd rfl (by trivial) ["_law_k"] [("_law_script",0),("_law_way",4)] (fb _ ["_law_way","_law_script"]) rfl (by rfl) rfl (by trivial) (by trivial) (aP (by rfl)) (b8 (by rfl)) (mC ⟨rfl,rfl⟩ (mC ⟨rfl,rfl⟩ mN)) (mC rfl (mC rfl mN)) (bu (by decide)) (bL (by rfl) B.range (aa af ag)) (fun _ _ _ _=>aK (i:=0) (show(["_law_k","_law_script","_law_way"]:List Str).Nodup by trivial) rfl (Or.inl rfl) (Or.inr rfl)) (fun _ _ _ _=>bz) (fun _ _ _ _=>(aA bD hr (aa (pv 0) (aa (aA aH hr (aa (pv 1) (aa af ag))) (aa (pv 2) ag)))))) pR4) ?_;intro kR3 pR3;refine ah 2 (ai (aw (i:=7) bf.nd rfl (by trivial) (aA bx hr (aa (pv 1) (aa (pv 6) ag)))) pR3) ?_;intro kR2 pR2;refine ah 1 (ai (aw (i:=6) bf.nd rfl (by trivial) (aA mf hr (aa (aA aH hr (aa (pv 0) (aa af ag))) (aa (pv 1) (aa (aq bZ (pv 2) (pv 3)) ag))))) pR2) ?_;intro kR1 pR1;refine⟨_,(ai (aw (i:=5) bf.nd rfl (by trivial) (aA iN hr (aa (pv 0) (aa (pv 4) ag)))) pR1),?_⟩;have dL:uM K mg bb:=⟨⟨tm,cQ,dw,cP,bE,cy.mg,eE⟩,ft,cR⟩;have dW:uM K mg aQ:=⟨⟨n9,cC,cO,cB,bE,cy.mg,dZ⟩,eW,cD⟩;have hwh:w*h<=64:=Nat.mul_le_mul hw8 hh8;have hwp:0<w*h:=Nat.mul_pos hw hh;have e1:((w:Int)*(h:Int))=((w*h:Nat):Int):=by simp
 have lx:=Fx pp;have l8:=O.len;have hsn:∀x∈((List.range 6).map (ik way)),PyData.canLay0 (.str x)=true:=fun x hx=>by obtain⟨j,hj,rfl⟩:=Fp.mp hx;exact(si (F9.mp hj)).1.lay
 have ly:∀p∈ps,(plD p).canLay0=true:=fun p hp=>by obtain⟨v,_,hv⟩:=Paired.right pp hp;exact hv.lay (O.ok p hp).1 hsn
 refine⟨_,rfl,_,rfl,a,ms,way,rfl,hS,fun lw sg num since ss H1 s1 hrow hsg lss=>?_⟩;refine⟨_,rfl,a,ms,6,rfl,s1.seq hS,_,rfl,_,rfl,_,rfl,_,_,rfl,rfl,.inl ⟨by lia,by lia⟩,_,lp,xs,ps,w*h,congrArg (fun x=>[V.int (ms.getD 6 0),V.ref lp,V.int x]) e1,s1.seq hl,Paired.imp (fun _ _ y=>PlE.tk s1.tk y) pp,ly,fun p hp=>⟨(O.ok p hp).2.1,(O.ok p hp).2.2.1⟩,l8,⟨hwp,hwh⟩,fun c H2 hc s2=>?_⟩;have s12:=s1.trans s2;have hl2:=s12.seq hl;have pp2:=Paired.imp (fun _ _ y=>PlE.tk s12.tk y) pp;refine⟨_,rfl,_,rfl,lp,xs,_,c,rfl,.inl hl2,oH pp2,by lia,?_⟩;have hpv:cS xs (ps.map (·.g)) c=.non\/∃p,PlE K H2 (cS xs (ps.map (·.g)) c) p/\jw rs p.R:=by
  rcases ju (c:=c) pp2 with⟨e,_⟩|⟨v,p,ev,_,_,hp,mp⟩
  ·exact .inl e
  ·exact .inr ⟨p,by rw[ev];exact hp,(hG p mp).nm⟩
 generalize cS xs (ps.map (·.g)) c=pv at hpv ⊢;refine⟨13,rfl,by decide,by decide,fun A hA=>?_⟩;refine mh (n:=13) (lo:=0) (fun i acc H5=>ak H2 H5/\H5 A=some (.lst acc)/\∃rs:List (List Key),Paired (bS K H5) acc rs/\rs.length=i/\∀r∈rs,du r) ⟨ak.upd hA,ae,[],.nil,rfl,fun _ y=>nomatch y⟩ ?_ ?_
 ·rintro i acc H5 hi ⟨s5,h5,rs',pr,lr,br⟩;rw[show(0:Int)+(i:Int)=((i:Nat):Int) by omega];refine dD ?_;intro kq1 kr1;refine⟨_,rfl,_,rfl,a,ms,2,rfl,(s12.trans s5).seq hS,_,rfl,i,_,way,rfl,by lia,fun lb r H6 s6 hb hlay hbur _=>?_⟩;have h6:=s6 _ _ h5;have tk:=TK.lst (o:=.lst (acc++[.ref lb])) h6;have la:=Fx pr;refine⟨h6,aD (by lia),?_,ae,rs'++[r],?_,by rw[Fz,lr];rfl,fun x hx=>?_⟩
  ·intro b o e;rw[au (fun y=>by rw[y,hA]at e;cases e)];exact s6 _ _ (s5 _ _ e)
  ·exact Paired.app (Paired.imp (fun _ _ y=>(y.tk s6.tk).tk tk) pr) (.cons (bS.tk tk ⟨hlay,lb,rfl,SqT.of hb⟩) .nil)
  ·rcases FC.mp hx with y|y
   ·exact br x y
   ·rw[Fq.mp y];exact hbur
 rintro acc H5 ⟨s5,h5,rs',pr,lr,br⟩;have s15:=s12.trans s5;have hpv5:pv=.non\/∃p,PlE K H5 pv p/\jw rs p.R:=hpv.imp id fun⟨p,y1,y2⟩=>⟨p,y1.tk s5.tk,y2⟩;refine⟨_,rfl,a,ms,4,rfl,s15.seq hS,_,rfl,_,rfl,_,pv,A,acc,rs,rfl,hpv5,SqL.of h5,⟨rs',pr,lr,br⟩,fun one H6 s6=>?_⟩;refine⟨_,rfl,a,ms,5,rfl,(s15.trans s6).seq hS,_,rfl,_,rfl,_,pv,A,acc,rs,rfl,hpv5.imp id (fun⟨p,y1,y2⟩=>⟨p,y1.tk s6.tk,y2⟩),SqL.of (s6 _ _ h5),⟨rs',Paired.imp (fun _ _ y=>bS.tk s6.tk y) pr,lr,br⟩,fun other H7 s7=>?_⟩;have s17:=s15.trans (s6.trans s7);have s27:=s2.trans (s5.trans (s6.trans s7));have hrow7:=s27.tup hrow;have hsg7:=s27.tup hsg;have hl7:=s17.seq hl;have pp7:=Paired.imp (fun _ _ y=>PlE.tk s17.tk y) pp;clear hpv hpv5 pr h5 s15 s5 s6 s7 s12 s2 hl2 pp2;refine⟨fun σ' H'=>∃(x C dx:Addr)(fs:List (Str×V))(R:kE->Prop)(o:kE)(vd:V),σ'=[some (.ref a),some (.ref lp),some (.int w),some (.int h),some (.int way),some (.ref lw),some (.int c),some pv,some (.ref A),some (.int one),some (.int other),some (.ref x),some vd,none,none]/\ak H7 H'/\H' x=some (.ins C dx fs)/\uM K mg C/\((mg "Lift"=some (.ref C)/\fs=lG num since sg c one/\R=cK ps c one num ss)\/∃h,mg "Waive"=some (.ref C)/\ba K C "ahead"/\fs=qW num since sg c one h/\R=eU ps c one h num ss)/\R o/\IsD K H' (outD o) vd,?_,?_⟩
 ·refine fU ?_;intro kD2;refine⟨_,rfl,a,ms,7,rfl,s17.seq hS,_,_,rfl,rfl,(by show(0:Int)<_;decide),rfl,_,rfl,?_⟩;refine(fun LB=>bw (fun _=>LB) (fun _=>⟨_,rfl,_,rfl,rfl,_,rfl,bw (fun _=>LB) (fun _=>?_)⟩)) ?_
  ·refine⟨_,rfl,lw,_,_,_,rfl,rfl,hrow7,az (j:=0) rfl,_,rfl,lw,_,_,_,rfl,rfl,hrow7,az (j:=1) rfl,_,rfl,lw,_,_,_,rfl,rfl,hrow7,az (j:=2) rfl,_,rfl,_,rfl,fun x dx hx hdx ne=>?_⟩;refine⟨x,bb,dx,sg,num,since,c,one,rfl,ae,dL,rfl,?_⟩;rw[bc];have s8:ak H7 (upd (upd H7 dx (.own x)) x (.ins bb dx (lG num since sg c one))):=(ak.upd hdx).trans (ak.upd (by rw[au (fun y=>ne y.symm)];exact hx));have hx8:(upd (upd H7 dx (.own x)) x (.ins bb dx (lG num since sg c one))) x=some (.ins bb dx (lG num since sg c one)):=ae;generalize (upd (upd H7 dx (.own x)) x (.ins bb dx (lG num since sg c one)))=H8 at s8 hx8 ⊢;refine⟨aF rfl,fun t1 ht1=>?_⟩;have s9:=ak.upd (o:=.tup [.str "lift"]) ht1;refine⟨_,rfl,t1,lw,_,_,rfl,rfl,SqT.of ae,(s8.trans s9).tup hrow7,aF rfl,fun r2 H10 s10 hr2=>?_⟩;refine⟨_,rfl,_,rfl,aF rfl,fun t3 ht3=>?_⟩;have s11:=ak.upd (o:=.tup [.int (c:Nat),.int one]) ht3;refine⟨r2,t3,_,_,rfl,rfl,s11.tup hr2,SqT.of ae,aF rfl,fun r4 H12 s12 hr4=>?_⟩;have sZ:=s8.trans (s9.trans (s10.trans (s11.trans s12)));refine⟨_,rfl,r4,lp,sg,.str "lift",num,since,one,c,ss,xs,ps,rs,rfl,hr4,sZ.tup hsg7,lss,sZ.seq hl7,Paired.imp (fun _ _ y=>PlE.tk sZ.tk y) pp7,hG,by omega,fun o v H13 s13 ro hd=>?_⟩;exact⟨x,bb,dx,_,_,o,v,rfl,sZ.trans s13,(s9.trans (s10.trans (s11.trans (s12.trans s13)))) _ _ hx8,dL,.inl ⟨fj.mg,rfl,rfl⟩,ro,hd⟩
  ·refine⟨_,rfl,lw,_,_,_,rfl,rfl,hrow7,az (j:=0) rfl,_,rfl,lw,_,_,_,rfl,rfl,hrow7,az (j:=1) rfl,_,rfl,lw,_,_,_,rfl,rfl,hrow7,az (j:=2) rfl,_,rfl,_,rfl,_,rfl,fun x dx hx hdx ne=>?_⟩;refine⟨x,aQ,dx,sg,num,since,c,one,other,rfl,ae,dW,cw,rfl,?_⟩;rw[bc];have s8:ak H7 (upd (upd H7 dx (.own x)) x (.ins aQ dx (qW num since sg c one other))):=(ak.upd hdx).trans (ak.upd (by rw[au (fun y=>ne y.symm)];exact hx));have hx8:(upd (upd H7 dx (.own x)) x (.ins aQ dx (qW num since sg c one other))) x=some (.ins aQ dx (qW num since sg c one other)):=ae;generalize (upd (upd H7 dx (.own x)) x (.ins aQ dx (qW num since sg c one other)))=H8 at s8 hx8 ⊢;refine⟨aF rfl,fun t1 ht1=>?_⟩;have s9:=ak.upd (o:=.tup [.str "waive"]) ht1;refine⟨_,rfl,t1,lw,_,_,rfl,rfl,SqT.of ae,(s8.trans s9).tup hrow7,aF rfl,fun r2 H10 s10 hr2=>?_⟩;refine⟨_,rfl,_,rfl,_,rfl,aF rfl,fun t3 ht3=>?_⟩;have s11:=ak.upd (o:=.tup [.int (c:Nat),.int one,.int other]) ht3;refine⟨r2,t3,_,_,rfl,rfl,s11.tup hr2,SqT.of ae,aF rfl,fun r4 H12 s12 hr4=>?_⟩;have sZ:=s8.trans (s9.trans (s10.trans (s11.trans s12)));refine⟨_,rfl,r4,lp,sg,.str "waive",num,since,one,other,c,ss,xs,ps,rs,rfl,hr4,sZ.tup hsg7,lss,sZ.seq hl7,Paired.imp (fun _ _ y=>PlE.tk sZ.tk y) pp7,hG,by omega,fun o v H13 s13 ro hd=>?_⟩;exact⟨x,aQ,dx,_,_,o,v,rfl,sZ.trans s13,(s9.trans (s10.trans (s11.trans (s12.trans s13)))) _ _ hx8,dW,.inr ⟨other,dP.mg,cw,rfl,rfl⟩,ro,hd⟩
 rintro σ' H8 ⟨x,C,dx,fs,R,o,vd,rfl,s8,hx8,dC,hR,ro,hd8⟩;have s18:=s17.trans s8;have hl8:=s18.seq hl;have pp8:=Paired.imp (fun _ _ y=>PlE.tk s18.tk y) pp;have hsg8:=s8.tup hsg7;have plnp:∀p∈ps,Pln (plD p):=fun p hp=>(O.ok p hp).1.pln (by rw[Fm,GJ];decide) O.bur;have hSl:∀p∈ps,p.S.length<=1000:=fun p hp=>FW (O.ok p hp).1.gs.len (by rw[Fm,GJ];decide);obtain⟨Rv,hRv,hun,hun2,plno⟩:∃Rv:kE->Prop,((mg "Lift"=some (.ref C)/\fs=lG num since sg c one/\Rv=cK ps.reverse c one num ss)\/∃h,mg "Waive"=some (.ref C)/\ba K C "ahead"/\fs=qW num since sg c one h/\Rv=eU ps.reverse c one h num ss)/\(∀o',R o'->o'=o)/\(∀o',Rv o'->o'=o)/\Pln (outD o):=by
  rcases hR with⟨y1,y2,rfl⟩|⟨h',y1,y2,y3,rfl⟩
  ·exact⟨_,.inl ⟨y1,y2,rfl⟩,fun o' ro'=>ro'.uniq hG ro,fun o' ro'=>(ro'.rev O.ap).uniq hG ro,ro.pln hG plnp hSl⟩
  ·exact⟨_,.inr ⟨h',y1,y2,y3,rfl⟩,fun o' ro'=>ro'.uniq ro,fun o' ro'=>(ro'.rev O.ap).uniq ro,ro.pln hG plnp hSl⟩
 have dpo:(outD o).depth<11:=Nat.lt_succ_of_le (zW o);refine⟨_,rfl,lp,xs,rfl,.inl hl8,fun lh hlh=>?_⟩;have s9:=ak.upd (o:=.lst xs) hlh;have hh9:(upd H8 lh (.lst xs)) lh=some (.lst xs):=ae;generalize (upd H8 lh (.lst xs))=H9 at s9 hh9 ⊢;refine⟨_,rfl,_,rfl,_,rfl,aF rfl,fun tf htf=>?_⟩;have s10:=ak.upd (o:=.tup [V.int (w:Nat),V.int (h:Nat)]) htf;have s90:=s9.trans s10;refine⟨_,rfl,x,C,dx,sg,lh,.ref tf,fs,R,num,since,one,c,ss,xs,ps,rs,rfl,s90 _ _ hx8,dC,hR,s90.tup hsg8,lss,SqL.of (s10 _ _ hh9),Paired.imp (fun _ _ y=>PlE.tk s90.tk y) pp8,hG,by omega,fun o' v H11 s11 ro' hd'=>?_⟩;obtain rfl:=hun o' ro';have s91:=s90.trans s11;have pp11:=Paired.imp (fun _ _ y=>PlE.tk s91.tk y) pp8;have hh11:=s11 _ _ (s10 _ _ hh9);have hl11:=s91.seq hl8;have hd11:=IsD.same s91 hd8;have eqr:PyData.eqv (.list (ps.map plD)) (.list (ps.map plD))=true:=SeqAt.eqv_refl _ (k8 ly);have dlp:PyData.depth (.list (ps.map plD))<=50:=FW (Nat.succ_le_succ (wq ps)) (by decide);refine⟨_,rfl,_,rfl,.list (ps.map plD),.list (ps.map plD),.lst (SqL.of hh11) (oG pp11),.lst hl11 (oG pp11),k8 ly,k8 ly,dlp,_,rfl,?_⟩;rw[eqr];refine fM ?_;refine⟨_,rfl,_,rfl,v,vd,outD o',rfl,hd',hd11,plno,dpo,_,rfl,fM ?_⟩;refine⟨_,rfl,_,rfl,_,rfl,aF rfl,fun tf2 htf2=>?_⟩;have s12:=ak.upd (o:=.tup [V.int (w:Nat),V.int (h:Nat)]) htf2;generalize (upd H11 tf2 (.tup [V.int (w:Nat),V.int (h:Nat)]))=H12 at s12 ⊢;refine⟨_,rfl,lp,xs,rfl,s12.seq hl11,fun rv hrv=>?_⟩;have nlp:∀o:HO,SqL K (upd H12 rv o) lp xs:=fun o=>(ak.upd hrv).seq (s12.seq hl11);refine⟨rv,lp,xs,rfl,ae,nlp _,fun l2 hl2=>?_⟩;rw[bc];have nl:l2≠rv:=fun e=>by rw[e,ae]at hl2;cases hl2
 replace hl2:(upd H12 rv (pM rv)) l2=none:=by rw[au nl]at hl2 ⊢;exact hl2
 have s13:=(ak.upd (o:=pM rv) hrv).trans (ak.upd (o:=.lst xs.reverse) hl2);have h13:(upd (upd H12 rv (pM rv)) l2 (.lst xs.reverse)) l2=some (.lst xs.reverse):=ae;generalize (upd (upd H12 rv (pM rv)) l2 (.lst xs.reverse))=H13 at s13 h13 ⊢;have s93:=s91.trans (s12.trans s13);refine⟨x,C,dx,sg,l2,.ref tf2,fs,Rv,num,since,one,c,ss,xs.reverse,ps.reverse,rs,rfl,s93 _ _ hx8,dC,hRv,s93.tup hsg8,lss,SqL.of h13,Paired.rev (Paired.imp (fun _ _ y=>PlE.tk s93.tk y) pp8),fun p hp=>hG p (List.mem_reverse.mp hp),by omega,fun o2 v2 H14 s14 ro2 hd2=>?_⟩;obtain rfl:=hun2 o2 ro2;exact⟨_,rfl,v2,vd,outD o2,rfl,hd2,IsD.same (s93.trans s14) hd8,plno,dpo,q _ (s18.trans (s93.trans s14))⟩
def yL(K:Frag):Sp:=fun vs H Q _=>∃(a:Addr)(ns:List Int),vs=[.ref a]/\SqL K H a (ns.map V.int)/\ns.length<=63/\∀H',Q (.bl true) H'
theorem oC:aB ["_law_script","_law_wide","_law_high","_law_way","_law_plots"] ["_law_script"] (ao (top 66)):=by trivial
include B d3 aH f6 fF in
theorem CM{f:Addr}{fd:FuncData}(F:Fun K "law" "law" (top 66) f fd):gK P w K mg base CX0 14 f fd ["_law_script"] (yL K):=by
 refine F.ok oC (by rintro _ _ _ _ ⟨a,ns,rfl,hS,hlen,q⟩;rfl) ?_;rintro _ A _ s H _ Q E hr ⟨a,ns,rfl,hS,hlen,q⟩;have hu:=hr.units;refine aN ?_;intro kX;refine ah 4 (aj (aE (cY (eV hu) tY (bI ["_law_j"] [("_law_script",0),("_law_plots",4),("_law_wide",1),("_law_high",2),("_law_way",3)] (fb _ ["_law_wide","_law_way","_law_script","_law_plots","_law_high"]) rfl (by rfl) rfl (by trivial) (by trivial) (aP (by rfl)) (b8 (by rfl)) (mC ⟨rfl,rfl⟩ (mC ⟨rfl,rfl⟩ (mC ⟨rfl,rfl⟩ (mC ⟨rfl,rfl⟩ (mC ⟨rfl,rfl⟩ mN))))) (mC rfl (mC rfl (mC rfl (mC rfl (mC rfl mN))))) (bu (by decide)) (bL (by rfl) B.range (aa af ag)) (fun _ _ _ _=>aK (i:=0) (show(["_law_j","_law_script","_law_plots","_law_wide","_law_high","_law_way"]:List Str).Nodup by trivial) rfl (Or.inl rfl) (Or.inr rfl)) (fun _ _ _ _=>bz) (fun _ _ _ _=>(aA f6 hr (aa (aA fF hr (aa (pv 1) (aa (pv 0) ag))) (aa (pv 2) (aa (pv 3) (aa (pv 4) (aa (pv 5) ag)))))))) (by with_unfolding_all rfl)))) ?_;intro kR4 pR4;refine ah 3 (ai (aw (i:=4) oC.nd rfl (by trivial) (aA d3 hr (aa (pv 0) (aa (pv 1) (aa (pv 2) (aa (pv 3) ag)))))) pR4) ?_;intro kR3 pR3;refine ah 2 (ai (aw (i:=3) oC.nd rfl (by trivial) (aq bh (aq b6 (aA aH hr (aa (pv 0) (aa af ag))) af) af)) pR3) ?_;intro kR2 pR2;refine ah 1 (ai (aw (i:=2) oC.nd rfl (by trivial) (aq bg af (aq bh (aq b6 (aA aH hr (aa (pv 0) (aa af ag))) af) af))) pR2) ?_;intro kR1 pR1;refine⟨_,(ai (aw (i:=1) oC.nd rfl (by trivial) (aq bg af (aq bh (aA aH hr (aa (pv 0) (aa af ag))) af))) pR1),?_⟩;obtain⟨w,ew,hw,hw8⟩:=Cb (ns.getD 0 0);obtain⟨h,eh,hh,hh8⟩:=Cb (ns.getD 0 0 / 8);refine⟨_,rfl,a,ns,0,rfl,hS,_,_,rfl,rfl,(by show(0:Int)<_;decide),_,_,rfl,rfl,?_⟩;simp only[ew];refine⟨_,rfl,a,ns,0,rfl,hS,_,_,rfl,rfl,⟨by decide,by decide⟩,_,_,rfl,rfl,(by show(0:Int)<_;decide),_,_,rfl,rfl,?_⟩;simp only[eh];refine⟨_,rfl,a,ns,0,rfl,hS,_,_,rfl,rfl,⟨by decide,by decide⟩,_,_,rfl,rfl,(by show(0:Int)<_;decide),?_⟩;refine⟨_,rfl,_,rfl,_,rfl,_,rfl,a,ns,w,h,_,rfl,hS,⟨hw,hw8,hh,hh8⟩,fun lp xs ps rs H1 s1 fr1 h1 pp O hG=>?_⟩;refine⟨3,rfl,by decide,by decide,fun A hA=>?_⟩;refine mh (n:=3) (lo:=0) (fun i acc H2=>ak H1 H2/\H2 A=some (.lst acc)/\acc=List.replicate i (.bl true)) ⟨ak.upd hA,ae,rfl⟩ ?_ ?_
 ·rintro i acc H2 hi ⟨s2,h2,rfl⟩;rw[show(0:Int)+(i:Int)=((i:Nat):Int) by omega];refine dD ?_;intro kq1 kr1;refine⟨_,rfl,_,rfl,a,ns,i,rfl,(s1.trans s2).seq hS,by lia,fun l ms H3 s3 hl=>?_⟩;have s23:=s2.trans s3;refine⟨_,rfl,_,rfl,_,rfl,_,rfl,l,lp,ms,w,h,_,xs,ps,rs,rfl,hl,⟨hw,hw8,hh,hh8⟩,SqL.of (s23 _ _ h1),Paired.imp (fun _ _ y=>PlE.tk s23.tk y) pp,O,hG,fun H4 s4=>?_⟩;have h4:=s4 _ _ (s3 _ _ h2);refine⟨h4,by rw[List.length_replicate];exact aD (by lia),?_,ae,by rw[List.replicate_succ']⟩;intro b o e;rw[au (fun y=>by rw[y,hA]at e;cases e)];exact s4 _ _ (s23 _ _ e)
 rintro acc H2 ⟨s2,h2,rfl⟩;exact⟨.bool false,[.bool true,.bool true,.bool true],.bl _,.inl (.lst (SqL.of h2) (.cons (.bl _) (.cons (.bl _) (.cons (.bl _) .nil)))),rfl,rfl,FF rfl,q _⟩
end
end My
structure PySem.W.Fast:Prop where (tw7549074470139713260 tw2312577372770445835 tw7940209459490130333 tw5584421989665732558 tw15840918953730292422 tw12312562573433028442 tw17750536005869197773 tw15664716265687699846 tw16712250541140592855 tw14692559169083040192 tw3818882281615634373 tw12944268737775990457 tw14342867106181258994 tw3264763662537087246 tw12202370101262035971 tw3062795049117304762 tw7794526059889446572 tw3333635653488046264 tw6791274397450241307 tw15867979935122166496 tw2518547529302434778 tw1228900358214046329 tw3168214504456151806 tw11727962901256892324 tw17529206750088501137 tw17206381852235734234 tw4342975342100419919 tw12811124366031638573 tw3857749172687458655 tw7549024287427715211 tw10647248384598537258 tw17298435798506194023 tw6827817544710369490 tw3488948065637517821 tw11263629511262503743 tw14368296123798616488 tw11478210924503701494 tw15135218309555778966 tw11396092406040463524 tw15863771458604108127 tw16826641775818960209 tw3053585176636708238 tw17695199893055205767 tw10705376155309106714 tw3500422775665064602 tw8916781441112192329 tw16884786250215167426 tw17913797577013625891 tw7556203948518330881 tw4865220222495037926 tw9825344294183034555 tw7547090445947126331 tw4919503445577847128 tw7996371120631682700 tw14439345329790388791 tw14681660315965584638 tw13913928662798236811 tw12465714357807001356 tw16308712859889562823 tw6638349661956227814 tw15710945995717520729 tw264618194520162173 tw10957607638248704475 tw1557528594600257531 tw2072865263081299725 tw12982438862509815150 tw1326225305697822627 tw6344406674887836751 tw17974621900035626806 tw5934448419521307316 tw12764754832937153971 tw7504478496999247022 tw12057803276753297461 tw10335699829857291966 tw9945623735062576296 tw4418165536803551 tw15118571628113893238 tw18435771894994008584 tw14977843387626982411 tw15738348554703186995 tw17555915174455973431 tw13970104039357245812 tw15509026066253300912 tw10749858010430978680 tw5921202695644741494 tw10472374171244084502 tw11000827555025443408 tw12993554081729552098 tw15899412983508909066 tw2166665829806254040 tw7884360102684495821 tw4745935855269523295 tw3194414536420724061 tw5554872128958128150 tw16274594609957782777 tw12169471939412543053 tw16925073986007047433 tw12858707971801223821 tw17046988817563746986 tw15168419418874213924 tw11278029893598249590 tw3158456618913256981 tw9163929084561409945 tw13081879362857531943 tw5293659830129797935 tw11627620462296184728 tw3656539308603465336 tw14873429154438667461 tw8930136898286435303 tw17388916457928415854 tw10774400718000083821 tw8501181546141118382 tw10437100272464828907 tw4731315399475541248 tw860372285922054879 tw18221992617718588574 tw7854113865425177003 tw6328054039067481431 tw12856767405388090448 tw16708554938933565835 tw10534468069664487061 tw2525538196508227682 tw7825762606379412657 tw16590782814278766291 tw15094471690481632251 tw7920574885682520195 tw5345899838383728206 tw12549361406549929682 tw15674418081827574068 tw13072214028770455104 tw18436318790766988086 tw4396566408085538518 tw9005995265296265916 tw13546257357667489815 tw1641544213335878093 tw7070458024728135964 tw12849985035454680694 tw8358205233280701816 tw17009694406178671653 tw1681807566855935687 tw25879401400129049 tw16446161066308417213 tw17567286137896147225 tw8887047802039890531 tw3837173048989542781 tw17565539456391958492 tw17837606074475076221 tw3705831636504589029 tw14916443828145642227 tw736981346664547806 tw16860686900843440488 tw14161338553569614695 tw6151750912670957147 tw17397752081935897147 tw2996280340184222619 tw6705427836946682728 tw6184199647707337560 tw10159093352921534930 tw7356059647964047691 tw17026855808707273695 tw9511578084984188597 tw14659866181954711991 tw21440901713081488 tw5941108470926359589 tw17313114715135408738 tw14352486536594871070 tw7200465180336355247 tw16578574965325807594 tw3796668737742712487 tw15821247723946625314 tw8215203228995376934 tw586774604193164600 tw14140098984855491624 tw1474012280537873983 tw15229803940308988134 tw3177972127484454025 tw3696379713773428203 tw11775357866977212920 tw8100893802568833483 tw14108074499411708620 tw8778072216151783870 tw7291110521561808555 tw15830739231360923759 tw2629137317417226873 tw16607432439977107735 tw17439454275362944911 tw9344163492403219271 tw10775985680616062893 tw9193758115196893551 tw13726479233715118818 tw6169059603257730839 tw4686759330367622082 tw14834517008628223537 tw8037599236717559915 tw9139937509776888225 tw3574030684207220297 tw3665852327767528323 tw10278395680604942456 tw9727999104042586686 tw4706832413453271126 tw12451766059388331264 tw17664668519700128215 tw7427573170585403529 tw13954250332241050590 tw6841593663925083164 tw14858516839788519799 tw11230995959512322728 tw17715262006713130125 tw14529721985341878601 tw14109980718192622113 tw11643338736650456964 tw13229194996291349602 tw16609579604895206749 tw7631467436371597350 tw15512617129541579142 tw4612106242700125909 tw8469333565255610944 tw6949258561965433129 tw12844827570893088753 tw6257958469178679983 tw12811997277027954159 tw10459977139836371337 tw10427474603775961090 tw9232210883750452300 tw7853748519538677366 tw14628055078353455238 tw14340075728782224254 tw1963767465601644269 tw15123572545199273531 tw15864236807448087051 tw16460483861138978576 tw10293174028949992048 tw4247473890087087708 tw5619886646753681234 tw2019527723200653389 tw17132876801375913169 tw15741402715763884505 tw12802171450824048802 tw12179020622923113343 tw1745984078868790982 tw9350461937563688048 tw4956003314395453290 tw3281354981122319018 tw18425205042623779077 tw1298433901865870206 tw6071582089959392942 tw9789527779224096753 tw96254034655159348 tw6159815735174285458 tw13372046979851089371 tw12738305707478635238 tw11706912636751967725 tw17516035052413677969 tw6174490043839141889 tw6153364924983036429 tw16278308803761043627 tw11791008360430046708 tw6462647370211070740 tw2671658980734011153 tw16108497547599774930 tw2508999579780219176 tw17771548485132738515 tw11984017433945576093 tw3122621825912752453 tw3392420683423302942 tw7290211897650463230 tw8159487531032573270 tw2670858180323502894 tw9058663905504650173 tw10875623386028461207 tw12524924328929536860 tw12595325736697807988 tw10567649561729348433 tw18256929341173418499 tw16357124521083884441 tw953824199803141789 tw18416303718352144500 tw1905877041687631851 tw10787909586839010893 tw2967995531982094595 tw17155462082852930775 tw11760699643895694612 tw3702602024938179968 tw17250128656479450323 tw15492664339937570984 tw17068616241825377503 tw7487095904652055784 tw10071874540077660287 tw6855366896513219099 tw8995341448445269761 tw13039418291757706819 tw1890774565300049942 tw18395980198346262039 tw16450921443585670390 tw4984162380955825336 tw13456691933735036323 tw10416097694836541843 tw16156131373419419694 tw11370797883588241513 tw10547998144563200180 tw3143402489288536496 tw15580876242726776037 tw11775313381603832201 tw16049211688610273107 tw12366384061052092210 tw36090333891609127 tw17905351030574238966 tw10308319976356482946 tw13637482365739953653 tw13194948543912684907 tw7761399689953553550 tw14245032700209247985 tw9981019035828239311 tw17554413444988506216 tw15755491735765934693 tw10964330242558791294 tw8171274476398828118 tw14604477499752719063 tw7361745199502043830 tw472903966485159336 tw6883541550336178187 tw1264590640469154710 tw12393518853075072321 tw3104165423625250900 tw15926837668608996399 tw6797847922923597922 tw6254628155384431144 tw3905103221128040411 tw12486805270002914978 tw10924005358680281378 tw107910789123093501 tw10130628746473783951 tw16161899145070606135 tw13908764195481095045 tw8760113288498699406 tw5488064012202531304 tw464555008157860214 tw14511538166079714038 tw10768084118219564991 tw9730032587637338943 tw398243680445313959 tw205147600139109637 tw16484034397015270444 tw14054393100763072493 tw9969450051267369867 tw9457642358160988369 tw10956802891100607838 tw10564593264992409102 tw9117032199918067554 tw7054255547822762191 tw16873865483856320213 tw16713402270287766146 tw10180384922035399695 tw6097098548710570880 tw2550657891398473752 tw16373405855652074756 tw9865900087031816977 tw9782598947158872343 tw9367763880589528807 tw9317129993145105928 tw9150226007018280522 tw8605696061896193626 tw8580034314298518441 tw8565068892196984544 tw843084204943201181 tw8390994731231999141 tw8310609561304487066 tw7959422672828368124 tw7480855611451862773 tw7373065294508822613 tw7324357574152416874 tw7010720783155363636 tw7005707558857879534 tw6890393323338544382 tw6757470215894851537 tw6543902433627981869 tw6520290465153703956 tw6498871218074461719 tw6071531930304293641 tw5752922501951490682 tw5740540493659024770 tw566855488766434023 tw5340842517882305280 tw5240926811107457843 tw4914582722174650755 tw448867732561163472 tw4422620951471693751 tw4259416280093814281 tw4121351725325134648 tw4029729800846746360 tw3982433390299784081 tw3876931349370747078 tw3363282943234726986 tw3212369675947885031 tw2691481662273977506 tw2689258337493914924 tw259824665026698308 tw2590687856234529684 tw258286950431110367 tw2579862980730202084 tw2443354119834209254 tw2396150608852781600 tw2355000525572127870 tw214211220973578755 tw213298055043523635 tw202162181152211132 tw2015767704595643143 tw1816828441128098996 tw18067996374206110984 tw17994604775359085562 tw17976497336198063336 tw17955457998876309113 tw17937081876000052873 tw17746250892281725049 tw1730336590087682069 tw17271896784075446428 tw17244234626685707116 tw17064047650250322139 tw17037184898467453309 tw16832004531154411386 tw16818881882001412590 tw16708244471610374830 tw16707057777842780375 tw16688525911550151747 tw16451485141485539774 tw16432201139581759475 tw1640220220406616367 tw16388907363102188855 tw16100037029995801703 tw15710610655414720846 tw15565302634012614533 tw15421313081857324495 tw15352321552766913338 tw15043136635985547287 tw14932623306755009568 tw1468527169509922124 tw14315805595703574253 tw1424200254668736454 tw13976928829865648686 tw13938954843162205591 tw13638014955110465184 tw13612533576481010016 tw13558583531135258335 tw13552813653588468844 tw13215521766541576234 tw13208271213705057680 tw13203272368713851083 tw1319803924685823880 tw12501743989203207439 tw12407001061231468331 tw12214050361160887337 tw12163768078383602505 tw12096765980175332513 tw12062246088691286138 tw12003317425990917398 tw11882904143883346852 tw11843215351726277180 tw11808866004413159466 tw11797449342926040512 tw11773713405436449791 tw11702849985440008165 tw1169249865670491734 tw11596423999657149220 tw11585927705594868949 tw11528660714293602713 tw11354093604106639338 tw11344353674764644066 tw11100140880834605663 tw11091656917921802043 tw110625720970616424 tw10954018165969679748 tw10888566309756571692 tw10866749532235620053 tw10830241179829232304 tw10711729382188542240 tw10704861076045476865 tw10339770792244260899 tw10336255147762788050 tw10311175689264400104 tw10272024895602491850 tw10267946168757482843 tw10139545337435409205 tw10038696142320981368:True)
open PySem PySem.W PyProof.Rows
local macro_rules
 | `(tactic|trivial)=> `(tactic|(dsimp only[L2.KOf];refine' L2.DG (by assumption) (by assumption) ?a ?l ?c ?k (fun _ _ _ _ _ _=>by first|exact L2.El fun _=>rfl|exact L2.CY fun _ _=>rfl|exact L2.Ek fun _ _ _=>rfl|exact L2.CW fun _ _ _ _=>rfl|exact L2.xT fun _ _ _ _ _=>rfl|exact L2.CV fun _ _ _ _ _ _=>rfl|exact L2.Ej fun _ _ _ _ _ _ _=>rfl);(case a=>k_is);(case l=>k_is);(case c=>k_is);(case k=>k_is)))
set_option maxRecDepth 100000 in
set_option maxHeartbeats 0 in
theorem PySem.Challenge.cw_landroll_k47_lifts_and_waives_holds : PySem.Challenge.rw_landroll_k47_lifts_and_waives.Holds := by
 w_on;o_law;k_head;(case hw=>w_witness2)
 k_fill
 refine L2.yB (l:=PySem.Challenge.rw_landroll_k47_lifts_and_waives) (n:=63) (k:=14) (x:="_law_script") (CX:=L2.CX0) (sp:=My.yL) rfl (by decide) rfl ⟨rfl,by decide,by decide⟩ (fun w h Y=>PySem.W.kIn_of Y) ?F ?S ?C
 case F=>
  intro w mg fa h KX G hmg;have B:L2.Bn mg:=by
   refine' L2.Ez KX G ?z0 ?z1 ?z2 ?z3 ?z4 ?z5 ?z6 ?z7 ?z8 ?z9 ?z10 ?z11 ?z12 ?z13
   (case z0=>k_is);(case z1=>k_is);(case z2=>k_is);(case z3=>k_is);(case z4=>k_is);(case z5=>k_is);(case z6=>k_is);(case z7=>k_is);(case z8=>k_is);(case z9=>k_is);(case z10=>k_is);(case z11=>k_is);(case z12=>k_is);(case z13=>k_is)
  have DH:L2.Tx (L2.KOf KX) mg "law" (My.top 66) ["_law_script"]:=by trivial
  obtain⟨f,fd,F,b,hm⟩:=DH.ex;have e0:=hmg.symm.trans hm;cases e0;obtain⟨oc,od,kV,doc,pm,an,cdv,ct,osl,rfl,lk,hcd⟩:=id F.ex;refine⟨fnOf "law" "law" (L2.cF (My.top 66)) (L2.bA (My.top 66)) (L2.ao (My.top 66)) .none kV doc pm an cdv ct,fun s u=>.of_eq rfl,fun base kb nb=>?_⟩;have uI:mg "sum"=none:=by
   refine' L2.wD KX G ?a
   (case a=>k_is)
  have iQ:mg "reversed"=none:=by
   refine' L2.wD KX G ?a
   (case a=>k_is)
  obtain⟨bE,bb,aQ,aT,g9,cy,fj,bM,dP,bX,cg,jr,eX,fK,sO,n6,tm,n9,cQ,dw,cP,ft,cR,cC,cO,cB,eW,cD,cw,eE,dZ,jq,iz,iU,Av⟩:∃bE bb aQ aT g9,L2.fP mg "Paper" bE/\L2.fP mg "Lift" bb/\L2.BV (L2.KOf KX) mg "Paper" bE "__init__"/\L2.fP mg "Waive" aQ/\L2.fP mg "Falls" aT/\L2.tE (L2.KOf KX) aT/\L2.Ap (L2.KOf KX) mg "Falls" aT/\L2.RdX (L2.KOf KX) aT "word"/\L2.RdX (L2.KOf KX) aT "who"/\L2.MkC (L2.KOf KX) mg "Lift" bb/\L2.MkC (L2.KOf KX) mg "Waive" aQ/\L2.Cls (L2.KOf KX) bb/\L2.Cls (L2.KOf KX) aQ/\L2.ba (L2.KOf KX) bb "number"/\L2.ba (L2.KOf KX) bb "since"/\L2.ba (L2.KOf KX) bb "signed"/\L2.ba (L2.KOf KX) bb "at"/\L2.ba (L2.KOf KX) bb "burden"/\L2.ba (L2.KOf KX) aQ "number"/\L2.ba (L2.KOf KX) aQ "since"/\L2.ba (L2.KOf KX) aQ "signed"/\L2.ba (L2.KOf KX) aQ "at"/\L2.ba (L2.KOf KX) aQ "burden"/\L2.ba (L2.KOf KX) aQ "ahead"/\findIn (L2.KOf KX) (.ref bb) "wanting"=findIn (L2.KOf KX) (.ref bE) "wanting"/\findIn (L2.KOf KX) (.ref aQ) "wanting"=findIn (L2.KOf KX) (.ref bE) "wanting"/\L2.BU (L2.KOf KX) mg "LandError" g9/\L2.Aq (L2.KOf KX) aT "word"/\L2.Aq (L2.KOf KX) aT "who"/\L2.TxX (L2.KOf KX) mg "Falls" aT My.sM ["self","text","word","who"] "Falls.__init__":=by
   dsimp only[L2.KOf];refine'⟨_,_,_,_,_,L2.fG KX G ?ym,L2.fG KX G ?As,L2.BG KX G ?lM ?lL ?lK ?lJ ?lI,L2.fG KX G ?yl,L2.fG KX G ?yn,L2.Au ?xi ?xh,L2.Bt KX G ?x6 ?x5 ?x4 ?x3,⟨?p8,?p7,?p6,?pZ⟩,⟨?rE,?rD,?rC,?rB⟩,L2.zl KX G ?Bx ?Bw ?Bv,L2.zl KX G ?zI ?zH ?zG,⟨?BL,?BK,?BJ,?BI⟩,⟨?Ag,?Af,?Ae,?Ad⟩,?cQ,?dw,?cP,?ft,?cR,?cC,?cO,?cB,?eW,?cD,?cw,L2.two_eq ?mU ?mS,L2.two_eq ?lP ?lO,L2.BF KX G ?sJ ?sI ?sF ?sy,⟨?pU,?pR,?pQ⟩,⟨?qZ,?qY,?qX⟩,L2.Cj KX G ?yy ?yx ?yw ?yu ?yt ?yr ?yq ?yp (fun _ _ _ _ _ _ us hl=>match us,hl with| [_,_,_,_],_=>rfl)⟩
   (case ym=>k_is)
   (case As=>k_is)
   (case lM=>k_is)
   (case lL=>k_is)
   (case lK=>k_is)
   (case lJ=>k_is)
   (case lI=>k_is)
   (case yl=>k_is)
   (case yn=>k_is)
   (case xi=>k_is)
   (case xh=>kernel_rfl)
   (case x6=>k_is)
   (case x5=>k_is)
   (case x4=>kernel_rfl)
   (case x3=>k_is)
   (case p8=>kernel_rfl)
   (case p7=>k_is)
   (case p6=>k_is)
   (case pZ=>k_is)
   (case rE=>kernel_rfl)
   (case rD=>k_is)
   (case rC=>k_is)
   (case rB=>k_is)
   (case Bx=>k_is)
   (case Bw=>k_is)
   (case Bv=>k_is)
   (case zI=>k_is)
   (case zH=>k_is)
   (case zG=>k_is)
   (case BL=>k_is)
   (case BK=>k_is)
   (case BJ=>k_is)
   (case BI=>k_is)
   (case Ag=>k_is)
   (case Af=>k_is)
   (case Ae=>k_is)
   (case Ad=>k_is)
   (case cQ=>show findIn _ _ _=_;k_is)
   (case dw=>show findIn _ _ _=_;k_is)
   (case cP=>show findIn _ _ _=_;k_is)
   (case ft=>show findIn _ _ _=_;k_is)
   (case cR=>show findIn _ _ _=_;k_is)
   (case cC=>show findIn _ _ _=_;k_is)
   (case cO=>show findIn _ _ _=_;k_is)
   (case cB=>show findIn _ _ _=_;k_is)
   (case eW=>show findIn _ _ _=_;k_is)
   (case cD=>show findIn _ _ _=_;k_is)
   (case cw=>show findIn _ _ _=_;k_is)
   (case mU=>k_is)
   (case mS=>k_is)
   (case lP=>k_is)
   (case lO=>k_is)
   (case sJ=>k_is)
   (case sI=>k_is)
   (case sF=>k_is)
   (case sy=>k_is)
   (case pU=>k_is)
   (case pR=>kernel_rfl)
   (case pQ=>k_is)
   (case qZ=>k_is)
   (case qY=>kernel_rfl)
   (case qX=>k_is)
   (case yy=>k_is)
   (case yx=>k_is)
   (case yw=>k_is)
   (case yu=>k_is)
   (case yt=>k_is)
   (case yr=>k_is)
   (case yq=>k_is)
   (case yp=>kernel_rfl)
  have mq:L2.TxM (L2.KOf KX) bE "__init__" "Paper.__init__" My.dS ["self","number","since","signed"] []:=by
   obtain⟨c_,n_,t_⟩:∃c_,L2.fP mg "Paper" c_/\L2.TxM (L2.KOf KX) c_ "__init__" "Paper.__init__" My.dS ["self","number","since","signed"] []:=by
    dsimp only[L2.KOf];refine'⟨_,L2.fG KX G ?n,L2.q5 ?a ?f ?l ?c ?k (fun _ _ _ _ _ _=>L2.CW fun _ _ _ _=>rfl)⟩
    (case n=>k_is);(case a=>k_is);(case f=>k_is);(case l=>k_is);(case c=>k_is);(case k=>k_is)
   obtain rfl:c_=bE:=L2.fP.uniq n_ cy;exact t_
  have nQ:L2.TxM (L2.KOf KX) bE "wanting" "Paper.wanting" My.eu ["self","names"] []:=by
   obtain⟨c_,n_,t_⟩:∃c_,L2.fP mg "Paper" c_/\L2.TxM (L2.KOf KX) c_ "wanting" "Paper.wanting" My.eu ["self","names"] []:=by
    dsimp only[L2.KOf];refine'⟨_,L2.fG KX G ?n,L2.q5 ?a ?f ?l ?c ?k (fun _ _ _ _ _ _=>L2.CY fun _ _=>rfl)⟩
    (case n=>k_is);(case a=>k_is);(case f=>k_is);(case l=>k_is);(case c=>k_is);(case k=>k_is)
   obtain rfl:c_=bE:=L2.fP.uniq n_ cy;exact t_
  have nS:L2.TxM (L2.KOf KX) bb "__init__" "Lift.__init__" My.eA ["self","number","since","signed","at","burden"] []:=by
   obtain⟨c_,n_,t_⟩:∃c_,L2.fP mg "Lift" c_/\L2.TxM (L2.KOf KX) c_ "__init__" "Lift.__init__" My.eA ["self","number","since","signed","at","burden"] []:=by
    dsimp only[L2.KOf];refine'⟨_,L2.fG KX G ?n,L2.q5 ?a ?f ?l ?c ?k (fun _ _ _ _ _ _=>L2.CV fun _ _ _ _ _ _=>rfl)⟩
    (case n=>k_is);(case a=>k_is);(case f=>k_is);(case l=>k_is);(case c=>k_is);(case k=>k_is)
   obtain rfl:c_=bb:=L2.fP.uniq n_ fj;exact t_
  have mn:L2.TxM (L2.KOf KX) aQ "__init__" "Waive.__init__" My.dR ["self","number","since","signed","at","burden","ahead"] []:=by
   obtain⟨c_,n_,t_⟩:∃c_,L2.fP mg "Waive" c_/\L2.TxM (L2.KOf KX) c_ "__init__" "Waive.__init__" My.dR ["self","number","since","signed","at","burden","ahead"] []:=by
    dsimp only[L2.KOf];refine'⟨_,L2.fG KX G ?n,L2.q5 ?a ?f ?l ?c ?k (fun _ _ _ _ _ _=>L2.Ej fun _ _ _ _ _ _ _=>rfl)⟩
    (case n=>k_is);(case a=>k_is);(case f=>k_is);(case l=>k_is);(case c=>k_is);(case k=>k_is)
   obtain rfl:c_=aQ:=L2.fP.uniq n_ dP;exact t_
  have tI:L2.TxM (L2.KOf KX) bb "done" "Lift.done" My.gT ["self","floor","plots","told"] [.none]:=by
   obtain⟨c_,n_,t_⟩:∃c_,L2.fP mg "Lift" c_/\L2.TxM (L2.KOf KX) c_ "done" "Lift.done" My.gT ["self","floor","plots","told"] [.none]:=by
    dsimp only[L2.KOf];refine'⟨_,L2.fG KX G ?n,L2.vZ ?a ?f ?l ?c ?k ?b1 ?b2⟩
    (case n=>k_is);(case a=>k_is);(case f=>k_is);(case l=>k_is);(case c=>k_is);(case k=>k_is)
    (case b1=>exact L2.lH fun _=>L2.lH fun _=>L2.lH fun _=>L2.lH fun _=>L2.lenZ fun _=>rfl);(case b2=>exact L2.Ei (L2.lH fun _=>L2.lH fun _=>L2.lH fun _=>L2.lenZ fun _=>rfl))
   obtain rfl:c_=bb:=L2.fP.uniq n_ fj;exact t_
  have rf:L2.TxM (L2.KOf KX) aQ "done" "Waive.done" My.fY ["self","floor","plots","told"] [.none]:=by
   obtain⟨c_,n_,t_⟩:∃c_,L2.fP mg "Waive" c_/\L2.TxM (L2.KOf KX) c_ "done" "Waive.done" My.fY ["self","floor","plots","told"] [.none]:=by
    dsimp only[L2.KOf];refine'⟨_,L2.fG KX G ?n,L2.vZ ?a ?f ?l ?c ?k ?b1 ?b2⟩
    (case n=>k_is);(case a=>k_is);(case f=>k_is);(case l=>k_is);(case c=>k_is);(case k=>k_is)
    (case b1=>exact L2.lH fun _=>L2.lH fun _=>L2.lH fun _=>L2.lH fun _=>L2.lenZ fun _=>rfl);(case b2=>exact L2.Ei (L2.lH fun _=>L2.lH fun _=>L2.lH fun _=>L2.lenZ fun _=>rfl))
   obtain rfl:c_=aQ:=L2.fP.uniq n_ dP;exact t_
  have dH:=My.xO (P:=My.Pg) (w:=w) (base:=base) Av jq iz iU;have w8:=My.CN (P:=My.Pg) (w:=w) (base:=base) (K:=L2.KOf KX) B (by trivial);have md:=My.xK (P:=My.Pg) (w:=w) (base:=base) (K:=L2.KOf KX) B (by trivial);have dh:=My.qf (P:=My.Pg) (w:=w) (base:=base) (K:=L2.KOf KX) B (by trivial);have bN:=My.lE (P:=My.Pg) (w:=w) (base:=base) B cy mq;have eI:=My.mG (P:=My.Pg) (w:=w) (base:=base) B cy nQ;have c8:=My.t6 (P:=My.Pg) (w:=w) (base:=base) (K:=L2.KOf KX) B (by trivial);have fC:=My.oN (P:=My.Pg) (w:=w) (base:=base) (K:=L2.KOf KX) B (by trivial);have aH:=My.oR (P:=My.Pg) (w:=w) (base:=base) (K:=L2.KOf KX) B (by trivial);have cU:=My.rS (P:=My.Pg) (w:=w) (base:=base) (K:=L2.KOf KX) B (by trivial);have c9:=My.uh (P:=My.Pg) (w:=w) (base:=base) (K:=L2.KOf KX) B (by trivial);have g5:=My.rV (P:=My.Pg) (w:=w) (base:=base) (K:=L2.KOf KX) B (by trivial);have aX:=My.vg (P:=My.Pg) (w:=w) (base:=base) (K:=L2.KOf KX) B (by trivial);have fZ:=My.qa (P:=My.Pg) (w:=w) (base:=base) (K:=L2.KOf KX) B (by trivial);have aC:=My.t9 (P:=My.Pg) (w:=w) (base:=base) (K:=L2.KOf KX) B (by trivial);have cI:=My.ua (P:=My.Pg) (w:=w) (base:=base) (K:=L2.KOf KX) B (by trivial);have jH:=My.vf (P:=My.Pg) (w:=w) (base:=base) (K:=L2.KOf KX) B (by trivial);have bC:=My.kc (P:=My.Pg) (w:=w) (base:=base) (K:=L2.KOf KX) B (by trivial);have bB:=My.j8 (P:=My.Pg) (w:=w) (base:=base) (K:=L2.KOf KX) B (by trivial);have aZ:=My.kj (P:=My.Pg) (w:=w) (base:=base) (K:=L2.KOf KX) B (by trivial);have fE:=My.oO (P:=My.Pg) (w:=w) (base:=base) (K:=L2.KOf KX) B (by trivial);have iM:=My.t7 (P:=My.Pg) (w:=w) (base:=base) (K:=L2.KOf KX) B (by trivial);have gZ:=My.rR B md (by trivial);have f7:=My.qe B dh (by trivial);have jG:=My.ve B w8 (by trivial);have dO:=My.rQ B c8 (by trivial);have eJ:=My.mH B cy fj bM bN nS;have d4:=My.lB B cy bM dP bN mn;have dG:=My.ke B c9 g5 (by trivial);have g7:=My.rW B aX fZ (by trivial);have dF:=My.ka B uI aC cI jH (by trivial);have eR:=My.ug B aC (by trivial);have cG:=My.kg B aC (by trivial);have bx:=My.oQ B aX (by trivial);have mf:=My.xN B aX aC (by trivial);have dE:=My.j9 B aX aC cI (by trivial);have cJ:=My.oS B aX (by trivial);have gG:=My.t8 B aC aZ (by trivial);have de:=My.qc B bB (by trivial);have fF:=My.oP B aH (by trivial);have cV:=My.rY B f7 (by trivial);have eQ:=My.uk B dH bX cg jG (by trivial);have c5:=My.qg B cy dH bX cg eI (by trivial);have gY:=My.rO B c8 dO (by trivial);have lZ:=My.xJ B dh dO (by trivial);have eZ:=My.p9 B aX g7 (by trivial);have bD:=My.kh B aC cI bC eR (by trivial);have eG:=My.mF B c9 aX aC bB dF cG (by trivial);have iN:=My.ud B aH bC eR dE (by trivial);have e8:=My.nU B aZ bx cJ de (by trivial);have eF:=My.mE B aZ fE iM bx cJ de (by trivial);have d3:=My.lA B aH aC dG eZ bD eG (by trivial);have dN:=My.rP B gZ (by trivial);have me:=My.xM B fC dN (by trivial);have lY:=My.xI B gY dN (by trivial);have g8:=My.rZ B fj dH bX cg cV eQ c5 me tI;have f9:=My.qh B dP dH bX cg cV eQ c5 lZ lY rf;have gH:=My.uf B fj dP bX jr eX fK g8 f9 (by trivial);have fO:=My.rX B cU (by trivial);have f6:=My.qd B cy fj dP iQ sO n6 tm n9 cQ dw cP ft cR cC cO cB eW cD cw eE dZ aH eJ d4 bx mf gG bD iN e8 eF gH fO (by trivial);exact My.CM B aH fF d3 f6 F
 case S=>exact fun K H a ns hl hO hS=>⟨a,ns,rfl,hS,hl,fun _=>rfl⟩
 case C=>exact fun _ _ _ _ h=>h
#print axioms PySem.Challenge.cw_landroll_k47_lifts_and_waives_holds
