import PyProof.Rows.All
import Wide.All
import OpenK.AllK
import Wide.FinOn
import Lean
import PyProof.EqAt
import PyProof.EqKinds
import PyProof.TupleCall
import PySem.Challenge.RW_landroll_k42_rows_checked
set_option Elab.async false
set_option linter.all false
set_option maxRecDepth 100000
open PySem.W (Frag findIn mroIn kitOne keepIn fnOf codeIn nsIn)
section
open PySem PySem.Spec PyProof.Rows PyProof PySem.W PySem.Calls PySem.Builtin PySem.F
def Et:=@Nat.le_of_ble_eq_true
def Eu:=@wpAny_bind
def Ew:=@List.length_map
def Ex:=@Heap.get?_push_of_some
def Ey:=@decide_eq_true
def Ez:=@decide_eq_true_eq
def EA:=@of_decide_eq_true
def EB:=@Nat.lt_of_lt_of_le
def EC:=@List.length_append
def ED:=@List.getElem?_eq_some_iff
def EE:=@Bool.false_ne_true
def EF:=@wpAny_pure
def EG:=@Nat.le_refl
def EH:=@Nat.zero_le
def EI:=@decide_eq_false
def EJ:=@List.size_toArray
def EK:=@List.map_append
def EL:=@Bool.and_eq_true
def EM:=@Heap.lt_size
def EN:=@Nat.pow_le_pow_right
def EO:=@Bool.false_and
def ER:=@List.getElem?_eq_getElem
def ES:=@List.length_cons
def ET:=@Int.toNat_natCast
def EU:=@PySem.F.plainAttrs_list
def EV:=@PySem.F.type_list_append
def EW:=@PySem.F.slot_list_append
def EX:=@Nat.le_trans
def EY:=@List.mem_of_getElem?
def EZ:=@List.mem_cons_of_mem
def E1:=@Bool.true_and
def E2:=@List.append_nil
def E3:=@Int.emod_lt_of_pos
def E4:=@List.mem_append_right
def E5:=@Int.emod_nonneg
def E6:=@wpAny_mono
def E7:=@PySem.W.mg_none_of
def E8:=@List.getElem?_map
def E9:=@List.length_take
def Fb:=@if_neg
def Fc:=@List.mem_append_left
def Fd:=@List.mem_cons
def Fe:=@List.map_cons
def Ff:=@wpAny_loadPart_at
def Fg:=@List.mem_cons_self
def Fh:=@Heap.get?_push_size
def Fi:=@Bool.and_false
def Fj:=@Bool.and_eq_true_iff
def Fl:=@if_pos
def Fm:=@Bool.not_eq_true
def Fn:=@boot_isinstance
def Fo:=@Option.some.inj
def Fp:=@Nat.succ.inj
def Fq:=@List.length_singleton
def Fs:=@PyProof.Rows.slot_tuple_getitem
def Ft:=@List.mem_append
def Fu:=@Bool.eq_iff_iff
def Fv:=@PySem.boot_len
def Fw:=@Nat.mul_le_mul
def Fx:=@Nat.ne_of_lt
def Fy:=@List.mem_singleton
def Fz:=@Nat.testBit_and
def FA:=@List.nil_append
def FC:=@List.mem_range
def FD:=@List.take_add_one
def FE:=@List.exists_cons_of_length_eq_add_one
def FF:=@PySem.W.kia_one
def FG:=@PassesOwn.never
def FH:=@List.length_nil
def FI:=@List.take_length
def FJ:=@List.getElem?_cons_succ
def FK:=@Nat.testBit_or
def FL:=@Nat.le_of_lt
def FN:=@Option.toList_some
def FO:=@codeAny_call_builtin
def FP:=@wpAny_truthy_bool
def FQ:=@List.append_assoc
def FR:=@PySem.mem_of_lookup
def FT:=@Heap.get?_update_other
def FU:=@List.getElem?_append_right
def FV:=@List.all_eq_true
def FW:=@PySem.W.mg_of
def FX:=@List.mem_map
def FY:=@List.map_nil
def FZ:=@Heap.get?_update_self
def F4:=@wpAny_newObj_type
def F5:=@Bool.or_eq_true
def F6:=@Nat.lt_irrefl
def F7:=@Int.eq_ofNat_of_zero_le
def F8:=@Nat.testBit_succ
def F9:=@wpAny_Call_Name_kw
def Ga:=@Int.natAbs_natCast
def Gb:=@wpAny_passesOwn
def Gd:=@Rat.intCast_mul
def Ge:=@PyProof.Rows.callWith_type1
def Gf:=@Nat.two_pow_pos
def Gg:=@List.range_succ
def Gh:=@wpAny_holding
def Gi:=@F.slot_tuple_iterator_next
def Gj:=@Ne.symm
end
namespace L2
theorem ep3{α β:Type}{A B C:α->β->Prop}{g:Prop}(h:∃x y,A x y/\B x y/\C x y)(k:∀x y,A x y->B x y->C x y->g):g:=by obtain⟨x,y,a,b,c⟩:=h;exact k x y a b c
end L2
namespace L2
open PySem PySem.Spec PyProof.Rows
noncomputable abbrev Key:=Sum Int Str
noncomputable def qg:Key->Value->Bool
 | .inl k,v=>Value.isInt k v
 | .inr x,v=>Value.isStrOf x v
noncomputable def Ei(w:World):Key->Int
 | .inl k=>hashInt k
 | .inr x=>hashStr w x
theorem cD:∀{k:Key}{v:Value},qg k v=true->(∃i t,k=Sum.inl i/\v=Value.int i t)\/(∃x t,k=Sum.inr x/\v=Value.str x t)
 | .inl i,v,h=>by obtain⟨t,e⟩:=Value.isInt_shape (k:=i) (v:=v) h;exact .inl ⟨i,t,rfl,e⟩
 | .inr x,v,h=>by obtain⟨t,e⟩:=Value.isStrOf_shape (x:=x) (v:=v) h;exact .inr ⟨x,t,rfl,e⟩
theorem yc(i:Int)(t:Tok):qg (.inl i) (.int i t)=true:=by simp[qg,Value.isInt]
theorem yb(x:Str)(t:Tok):qg (.inr x) (.str x t)=true:=by simp[qg,Value.isStrOf]
theorem Cm(a b:Int):decide ((Sum.inl a:Key)=Sum.inl b)=(a==b):=by
 by_cases e:a=b
 ·subst e;simp
 ·have h:¬(Sum.inl a:Key)=Sum.inl b:=fun q=>e (Sum.inl.inj q);rw[EI h];exact(beq_eq_false_iff_ne.mpr e).symm
theorem Ci(a b:Str):decide ((Sum.inr a:Key)=Sum.inr b)=decide (a=b):=by
 by_cases e:a=b
 ·subst e;simp
 ·have h:¬(Sum.inr a:Key)=Sum.inr b:=fun q=>e (Sum.inr.inj q);rw[EI h,EI e]
theorem Ck(a:Int)(b:Str):decide ((Sum.inl a:Key)=Sum.inr b)=false:=EI (fun q=>nomatch q)
theorem Cj(a:Str)(b:Int):decide ((Sum.inr a:Key)=Sum.inl b)=false:=EI (fun q=>nomatch q)
noncomputable def fK(prog:Program)(w:World):PySem.KeyKind prog w Key where
 is:=qg
 hash:=Ei w
 inj:=fun v a b ha hb=>by
  rcases cD ha with⟨i,t,rfl,rfl⟩|⟨x,t,rfl,rfl⟩
  ·rcases cD hb with⟨j,u,rfl,e⟩|⟨y,u,rfl,e⟩
   ·injection e with e1 _;rw[e1]
   ·exact nomatch e
  ·rcases cD hb with⟨j,u,rfl,e⟩|⟨y,u,rfl,e⟩
   ·exact nomatch e
   ·injection e with e1 _;rw[e1]
 byValue:=fun k v h=>by
  rcases cD h with⟨i,t,rfl,rfl⟩|⟨x,t,rfl,rfl⟩<;>rfl
 pyHash:=fun hv h=>by
  rcases cD hv with⟨i,t,rfl,rfl⟩|⟨x,t,rfl,rfl⟩
  ·exact wpAny_pyHash_int h
  ·exact wpAny_pyHash_str h
 eqBool:=fun hu hv h=>by
  rcases cD hu with⟨i,t,rfl,rfl⟩|⟨x,t,rfl,rfl⟩
  ·rcases cD hv with⟨j,u,rfl,rfl⟩|⟨y,u,rfl,rfl⟩
   ·rw[Cm]at h;exact wpAny_eqBool_int h
   ·rw[Ck]at h;exact SeqAt.EqAt.int_str i t y u _ _ _ _ h
  ·rcases cD hv with⟨j,u,rfl,rfl⟩|⟨y,u,rfl,rfl⟩
   ·rw[Cj]at h;exact SeqAt.EqAt.str_int x t j u _ _ _ _ h
   ·rw[Ci]at h;exact wpAny_eqBool_str h
 «strs»:=fun k x t v h=>by
  rcases cD h with⟨i,u,rfl,e⟩|⟨y,u,rfl,e⟩
  ·exact nomatch e
  ·injection e with e1 _
   subst e1
   cases v<;>rfl
theorem ug(prog:Program)(w:World)(i:Int)(t:Tok):(fK prog w).is (.inl i) (.int i t)=true:=yc i t
theorem uf(prog:Program)(w:World)(x:Str)(t:Tok):(fK prog w).is (.inr x) (.str x t)=true:=yb x t
inductive V where
 |non|bl (b:Bool)|int (i:Int)|str (x:Str)|byt (b:Array UInt8)|flt (b:UInt64)|ref (a:Addr)|ty (n:String)
 deriving DecidableEq
noncomputable def RelV:V->Value->Prop
 | .non,u=>u=Value.none
 | .bl b,u=>u=Value.bool b
 | .int i,u=>∃t,u=Value.int i t
 | .str x,u=>∃t,u=Value.str x t
 | .byt b,u=>∃t,u=Value.bytes b t
 | .flt b,u=>∃t,u=Value.float b t
 | .ref a,u=>u=Value.ref a
 | .ty n,u=>u=Value.type n
abbrev Vals:List V->List Value->Prop:=Paired RelV
theorem Vals.length{xs:List V}{us:List Value}(r:Vals xs us):xs.length=us.length:=Paired.length r
theorem Vals.get:∀{xs:List V}{us:List Value}{i:Nat}{x:V},Vals xs us->xs[i]?=some x->∃u,us[i]?=some u/\RelV x u
 |_,_,_,_,.nil,e=>by simp at e
 |_,_,0,_,.cons r _,e=>by simp at e;subst e;exact⟨_,rfl,r⟩
 |_,_,i+1,x,.cons _ t,e=>by obtain⟨u,h1,h2⟩:=Vals.get (i:=i) (x:=x) t (by simpa using e);exact⟨u,by simpa using h1,h2⟩
theorem Vals.set{x:V}{u:Value}(r:RelV x u):∀{xs:List V}{us:List Value}(i:Nat),Vals xs us->Vals (xs.set i x) (us.set i u)
 |_,_,_,.nil=>.nil
 |_,_,0,.cons _ t=>.cons r t
 |_,_,i+1,.cons q t=>.cons q (Vals.set r i t)
theorem Vals.append{xs ys:List V}{us ws:List Value}(hI:Vals xs us):Vals ys ws->Vals (xs++ys) (us++ws):=by
 induction hI with
 |nil=>exact fun s=>s
 |cons r t ih=>exact fun s=>.cons r (ih s)
theorem Vals.take:∀{xs:List V}{us:List Value}(n:Nat),Vals xs us->Vals (xs.take n) (us.take n)
 |_,_,0,_=>.nil
 |_,_,_+1,.nil=>.nil
 |_,_,n+1,.cons r t=>.cons r (Vals.take n t)
theorem Vals.drop:∀{xs:List V}{us:List Value}(n:Nat),Vals xs us->Vals (xs.drop n) (us.drop n)
 |_,_,0,r=>r
 |_,_,_+1,.nil=>.nil
 |_,_,n+1,.cons _ t=>Vals.drop n t
noncomputable def lT:Option V->Option Value->Prop
 |some v,some u=>RelV v u
 |none,none=>True
 |_,_=>False
def KV{κ:Type}:List (κ×V)->List (κ×Value)->Prop:=Paired fun(p:κ×V) (q:κ×Value)=>p.1=q.1/\RelV p.2 q.2
noncomputable def kV:Key->V
 | .inl i=>.int i
 | .inr x=>.str x
inductive HO where
 |lst (xs:List V)
 |tup (xs:List V)
 |dK (kvs:List (Key×V))|dT (kvs:List (List Key×V))
 |set (S:Int->Bool) (n:Nat)
 |ins (C dx:Addr) (fs:List (Str×V))
 |own (x:Addr)
 |xd (fs:List (Str×V))
 |met (f x:Addr)
 |rng (lo hi:Int)
 |frz (o:Obj) (u:HO)
 |tbl (ps:Array Value)
 |ext (φ:Heap->Prop)
noncomputable abbrev Hp:=Addr->Option HO
noncomputable def upd(H:Hp)(a:Addr)(o:HO):Hp:=fun b=>if b=a then some o else H b
theorem ag{H:Hp}{a:Addr}{o:HO}:upd H a o a=some o:=by unfold upd;rw[Fl rfl]
theorem aN{H:Hp}{a b:Addr}{o:HO}(h:b≠a):upd H a o b=H b:=by unfold upd;rw[Fb h]
theorem c8{H:Hp}{a:Addr}{o u:HO}:upd (upd H a o) a u=upd H a u:=by funext b;unfold upd;split<;>rfl
theorem BF{H:Hp}{a b:Addr}{o u:HO}(h:H a=some o)(h':H b=some u)(d:o≠u):a≠b:=by intro e;subst e;rw[h]at h';exact d (Fo h')
theorem cR{H:Hp}{a b:Addr}{o:HO}(h:H a=some o)(h':H b=none):a≠b:=by intro e;subst e;rw[h]at h';cases h'
section
variable(P:Program)(w:World)
noncomputable def cW(H:Hp)(h:Heap)(a:Addr):HO->Prop
 | .lst xs=>xs.length<=sizeLine/\∃(its:List Value)(n:Nat),Vals xs its/\h.get? a=some {cls:=.type "list",data:=.seq its.toArray n}
 | .tup xs=>xs.length<=sizeLine/\∃its:List Value,Vals xs its/\IsTup h a its.toArray
 | .dK kvs=>kvs.length<=sizeLine/\(a==sysModules)=false/\∃vs,KV kvs vs/\h.DictOf (fK P w) a vs
 | .dT kvs=>kvs.length<=sizeLine/\(a==sysModules)=false/\∃xs:List (List Key×Addr×Value),
  Paired (fun(p:List Key×V) (q:List Key×Addr×Value)=>p.1=q.1/\H q.2.1=some (.tup (p.1.map kV))/\RelV p.2 q.2.2) kvs xs/\
  ∃o es ep,h.get? a=some o/\o.ExactDict/\o.data=.dict es ep/\es.toList=xs.map (entryOfKey (tupleKind (fK P w)))/\(xs.map (·.1)).Nodup
 | .set S n=>h.SetOf (intKind P w) a S n
 | .ins C dx fs=>H dx=some (.own a)/\fs.length<=1000/\dx≠a/\h.get? a=some (PySem.W.instObj C dx)/\
  ∃mA,h.Ns1 dx mA/\(∀f,lT (fs.lookup f) (mA f))/\PySem.Within mA (fs.map (·.1))
 | .own _=>∃o,h.get? a=some o
 | .xd fs=>∃mA,h.Ns1 a mA/\∀f,lT (fs.lookup f) (mA f)
 | .rng lo hi=>∃t u v,h.get? a=some {cls:=.type "range",data:=.fields #[.int lo t,.int hi u,.int 1 v]}
 | .frz o u=>h.get? a=some o/\cW H h a u
 | .tbl ps=>h.get? a=some {cls:=.none,data:=.fields ps}
 | .met f x=>h.get? a=some (PySem.W.methodObj (.ref f) (.ref x))
 | .ext φ=>φ h/\(∃o,h.get? a=some o)/\∀h1 h2:Heap,φ h1->(∀o,h1.get? a=some o->h2.get? a=some o)->φ h2
def HOk(H:Hp)(h:Heap):Prop:=∀a o,H a=some o->cW P w H h a o
end
section
variable{P:Program}{w:World}{H H':Hp}{h h':Heap}{a:Addr}{o:HO}
theorem cW.lt(x:cW P w H h a o):a<h.objs.size:=by
 cases o with
 |lst xs=>obtain⟨_,_,_,_,e⟩:=x;exact EM e
 |tup xs=>obtain⟨_,_,_,p⟩:=x;exact p.lt
 |dK kvs=>obtain⟨_,_,_,_,o,_,_,e,_⟩:=x;exact EM e
 |dT kvs=>obtain⟨_,_,_,_,o,_,_,e,_⟩:=x;exact EM e
 |set S n=>obtain⟨o,_,_,_,e,_⟩:=x;exact EM e
 |ins C dx fs=>obtain⟨_,_,_,e,_⟩:=x;exact EM e
 |own y=>obtain⟨_,e⟩:=x;exact EM e
 |xd fs=>obtain⟨_,⟨_,_,_,e,_⟩,_⟩:=x;exact EM e
 |rng lo hi=>obtain⟨_,_,_,e⟩:=x;exact EM e
 |frz ob u=>obtain⟨e,_⟩:=x;exact EM e
 |tbl ps=>exact EM (show h.get? a=some _ from x)
 |met f y=>exact EM (show h.get? a=some _ from x)
 |ext φ=>obtain⟨_,⟨_,e⟩,_⟩:=x;exact EM e
theorem Paired.mapP{α β:Type}{F G:α->β->Prop}{l₁:List α}{l₂:List β}(hI:Paired F l₁ l₂):(∀a b,F a b->G a b)->Paired G l₁ l₂:=by
 induction hI with
 |nil=>exact fun _=>.nil
 |cons r t ih=>exact fun f=>.cons (f _ _ r) (ih f)
theorem cW.stay(x:cW P w H h a o)(k:∀b u,(b=a\/H b=some (.own a))->h.get? b=some u->h'.get? b=some u)
  (ho:∀b,H b=some (.own a)->H' b=some (.own a)) (ht:∀b xs,H b=some (.tup xs)->H' b=some (.tup xs)):cW P w H' h' a o:=by
 induction o with
 |lst xs=>obtain⟨z,its,n,r,e⟩:=x;exact⟨z,its,n,r,k _ _ (.inl rfl) e⟩
 |tup xs=>obtain⟨z,its,r,ob,e,c⟩:=x;exact⟨z,its,r,ob,k _ _ (.inl rfl) e,c⟩
 |dK kvs=>obtain⟨z,y,vs,r,ob,es,ep,e,c⟩:=x;exact⟨z,y,vs,r,ob,es,ep,k _ _ (.inl rfl) e,c⟩
 |dT kvs=>obtain⟨z,y,xs,r,ob,es,ep,e,c⟩:=x;exact⟨z,y,xs,Paired.mapP r fun p q z=>⟨z.1,ht _ _ z.2.1,z.2.2⟩,ob,es,ep,k _ _ (.inl rfl) e,c⟩
 |set S n=>obtain⟨ob,es,ep,t,e,c⟩:=x;exact⟨ob,es,ep,t,k _ _ (.inl rfl) e,c⟩
 |ins C dx fs=>obtain⟨d,z,ne,e,mA,⟨od,es,ep,e2,c⟩,r⟩:=x;exact⟨ho _ d,z,ne,k _ _ (.inl rfl) e,mA,⟨od,es,ep,k _ _ (.inr d) e2,c⟩,r⟩
 |own y=>obtain⟨ob,e⟩:=x;exact⟨ob,k _ _ (.inl rfl) e⟩
 |xd fs=>obtain⟨mA,⟨od,es,ep,e,c⟩,r⟩:=x;exact⟨mA,⟨od,es,ep,k _ _ (.inl rfl) e,c⟩,r⟩
 |rng lo hi=>obtain⟨t,u,v,e⟩:=x;exact⟨t,u,v,k _ _ (.inl rfl) e⟩
 |frz ob u ih=>obtain⟨e,q⟩:=x;exact⟨k _ _ (.inl rfl) e,ih q⟩
 |tbl ps=>have e:h.get? a=some {cls:=.none,data:=.fields ps}:=x;show h'.get? a=some {cls:=.none,data:=.fields ps};exact k a _ (.inl rfl) e
 |met f y=>have e:h.get? a=some (PySem.W.methodObj (.ref f) (.ref y)):=x;show h'.get? a=some (PySem.W.methodObj (.ref f) (.ref y));exact k a _ (.inl rfl) e
 |ext φ=>obtain⟨p,⟨o,e⟩,st⟩:=x;exact⟨st _ _ p fun o q=>k _ _ (.inl rfl) q,⟨o,k _ _ (.inl rfl) e⟩,st⟩
theorem HOk.lt(x:HOk P w H h)(e:H a=some o):a<h.objs.size:=(x a o e).lt
theorem HOk.fresh(x:HOk P w H h)(e:h.objs.size<=a):H a=none:=by
 cases q:H a with
 |none=>rfl
 |some u=>exact absurd (EB (x.lt q) e) (F6 _)
theorem HOk.kept(x:HOk P w H h)(k:∀b u,h.get? b=some u->h'.get? b=some u):HOk P w H h':=fun a o e=>(x a o e).stay (fun b u _ q=>k b u q) (fun _ q=>q) fun _ _ q=>q
theorem HOk.laid(x:HOk P w H h)(k:∀b u,h.get? b=some u->h'.get? b=some u)(hp:h.objs.size<=a)(new:cW P w (upd H a o) h' a o):HOk P w (upd H a o) h':=fun b u e=>by
 have hn:=x.fresh hp;by_cases hb:b=a
 ·subst hb;rw[ag]at e;cases e;exact new
 ·rw[aN hb]at e;exact(x b u e).stay (fun c v _ q=>k c v q) (fun c q=>by rw[aN (cR q hn)];exact q) fun c xs q=>by rw[aN (cR q hn)];exact q
end
def Rd(H:Hp)(a:Addr)(u:HO):Prop:=H a=some u\/∃o,H a=some (.frz o u)
theorem Rd.ok{P:Program}{w:World}{H:Hp}{h:Heap}{a:Addr}{u:HO}(r:Rd H a u)(x:HOk P w H h):cW P w H h a u:=by
 rcases r with r|⟨o,r⟩
 ·exact x a u r
 ·obtain⟨_,q⟩:=x a _ r;exact q
noncomputable def Mut:Option HO->Prop
 |some (.lst _)=>True
 |some (.dK _)=>True
 |some (.dT _)=>True
 |some (.set _ _)=>True
 |some (.ins _ _ _)=>True
 |some (.ext _)=>True
 |_=>False
section
variable{P:Program}{w:World}{H:Hp}{h h':Heap}{x e:Addr}{o':HO}
theorem HOk.write(ok:HOk P w H h)(mu:Mut (H x))(he:e=x\/H e=some (.own x))(k:∀b u,b≠e->h.get? b=some u->h'.get? b=some u)(heo:∃u,h'.get? e=some u)
  (new:cW P w (upd H x o') h' x o'):HOk P w (upd H x o') h':=fun b u q=>by
 have nown:∀c y,H c=some (.own y)->c≠x:=fun c y r z=>by subst z;rw[r]at mu;exact mu
 have ntup:∀c xs,H c=some (.tup xs)->c≠x:=fun c xs r z=>by subst z;rw[r]at mu;exact mu
 by_cases hb:b=x
 ·subst hb;rw[ag]at q;cases q;exact new
 ·rw[aN hb]at q;by_cases hbe:b=e
  ·have q':H b=some (.own x):=by
    rcases he with z|z
    ·exact absurd (hbe.trans z) hb
    ·rw[hbe];exact z
   rw[q]at q';cases q';obtain⟨v,hv⟩:=heo;exact⟨v,by rw[hbe];exact hv⟩
  ·refine(ok b u q).stay (fun c v hc r=>k c v ?_ r) (fun c r=>by rw[aN (nown c b r)];exact r) fun c xs r=>by rw[aN (ntup c xs r)];exact r
   rcases hc with rfl|hc
   ·exact hbe
   ·rintro rfl;rcases he with z|z
    ·exact nown c b hc z
    ·rw[hc]at z;cases z;exact hb rfl
end
structure Un(fs ex:List Addr)(H H':Hp)(h h':Heap):Prop where
 keep:∀b o,h.get? b=some o->H b=none->b∉fs->b∉ex->h'.get? b=some o
 slot:∀b o,h.get? b=some o->H b=none->b∈fs->b∉ex->∃sl,h'.get? b=some {o with slots:=sl}
 free:∀b o,h.get? b=some o->H b=none->b∉ex->H' b=none
 there:∀b o,h.get? b=some o->b∉ex->∃o',h'.get? b=some o'
 tups:∀b xs,H b=some (.tup xs)->H' b=some (.tup xs)
 frzs:∀b o u,H b=some (.frz o u)->H' b=some (.frz o u)
 tbls:∀b ps,H b=some (.tbl ps)->∃more,H' b=some (.tbl (ps++more))
section
variable{fs fs' ex ex':List Addr}{H H1 H2:Hp}{h h1 h2 h':Heap}{a x e:Addr}{o:HO}
theorem Un.any(u:Un fs ex H H1 h h1){b:Addr}{ob:Obj}(q:h.get? b=some ob)(n:H b=none)(hx:b∉ex):∃sl,h1.get? b=some {ob with slots:=sl}:=by
 by_cases hb:b∈fs
 ·exact u.slot b ob q n hb hx
 ·exact⟨ob.slots,u.keep b ob q n hb hx⟩
theorem Un.kept(k:∀b u,h.get? b=some u->h'.get? b=some u):Un fs ex H H h h':=
 ⟨fun b ob q _ _ _=>k b ob q,fun b ob q _ _ _=>⟨ob.slots,k b ob q⟩,fun _ _ _ n _=>n,fun b ob q _=>⟨ob,k b ob q⟩,fun _ _ q=>q,fun _ _ _ q=>q,fun _ ps q=>⟨#[],by rw[q];simp⟩⟩
theorem Un.refl:Un fs ex H H h h:=Un.kept fun _ _ q=>q
theorem Un.laid(k:∀b u,h.get? b=some u->h'.get? b=some u)(hp:h.objs.size<=a)(hn:H a=none):Un fs ex H (upd H a o) h h' where
 keep:=fun b u q _ _ _=>k b u q
 slot:=fun b u q _ _ _=>⟨u.slots,k b u q⟩
 free:=fun b u q n _=>by rw[aN (Fx (EB (EM q) hp))];exact n
 there:=fun b u q _=>⟨u,k b u q⟩
 tups:=fun b xs q=>by rw[aN (cR q hn)];exact q
 frzs:=fun b u xs q=>by rw[aN (cR q hn)];exact q
 tbls:=fun b ps q=>⟨#[],by rw[aN (cR q hn),q];simp⟩
theorem Un.write(mu:Mut (H x))(he:e=x\/H e=some (.own x))(k:∀b u,b≠e->h.get? b=some u->h'.get? b=some u)(heo:∃u,h'.get? e=some u):Un fs ex H (upd H x o) h h':=by
 have hx:∀b,H b=none->b≠x:=fun b n z=>by subst z;rw[n]at mu;exact mu
 have hb:∀b,H b=none->b≠e:=fun b n z=>by
  subst z;rcases he with r|r
  ·exact hx b n r
  ·rw[n]at r;cases r
 have hm:∀b u,H b=some u->¬Mut (some u)->b≠x:=fun b u q nm z=>by subst z;rw[q]at mu;exact nm mu
 refine⟨fun b u q n _ _=>k b u (hb b n) q,fun b u q n _ _=>⟨u.slots,k b u (hb b n) q⟩,fun b u q n _=>by rw[aN (hx b n)];exact n,fun b u q _=>?_,
  fun b xs q=>by rw[aN (hm b _ q fun z=>z)];exact q,fun b u xs q=>by rw[aN (hm b _ q fun z=>z)];exact q,fun b ps q=>⟨#[],by rw[aN (hm b _ q fun z=>z),q];simp⟩⟩
 by_cases hbe:b=e
 ·subst hbe;exact heo
 ·exact⟨u,k b u hbe q⟩
end
noncomputable def trk(h:Heap)(H:Hp):List Addr:=(List.range h.objs.size).filter fun a=>(H a).isSome
noncomputable def rQ(h:Heap)(H:Hp):Heap:=PySem.W.hideAll h (trk h H)
theorem yg(h:Heap)(H:Hp):(rQ h H).objs.size=h.objs.size:=PySem.W.hideAll_size _ _
theorem zF{h:Heap}{H:Hp}{b:Addr}{o:Obj}(e:h.get? b=some o)(n:H b=none):(rQ h H).get? b=some o:=
 PySem.W.hideAll_get _ e fun hm=>by have q:(H b).isSome=true:=(List.mem_filter.mp hm).2;rw[n]at q;simp at q
theorem AO{h:Heap}{H:Hp}{b:Addr}{o:Obj}(e:(rQ h H).get? b=some o):h.get? b=some o/\H b=none:=by
 have e':h.get? b=some o:=PySem.W.of_hideAll (trk h H) e;refine⟨e',?_⟩;cases q:H b with
 |none=>rfl
 |some x=>have hm:b∈trk h H:=List.mem_filter.mpr ⟨FC.mpr (EM e'),by simp[q]⟩;have z:(rQ h H).get? b=none:=PySem.W.hideAll_none (trk h H) hm;rw[z]at e;cases e
structure Mod(K:Frag)(mg:Str->Option Value)(base:Heap):Prop where
 kin:K.In base
 glob:base.Ns mainGlobals mg
 blt:∃mb,base.Ns builtinsNs mb/\∀x:Str,x≠"__name__"->mb x=bootBuiltins x
 nolimit:base.NoLimit
structure Cx where
 prog:Program
 w:World
 K:Frag
 mg:Str->Option Value
 base:Heap
 A:Around
 N:List Str
 s₀:Shared
 H₀:Hp
 env:Env
 outer:List Env
 stack:List Env
 ex:List Addr
 fn:Str->Bool
 calm:Bool
 pn:List (Addr×Obj)
 xe:Value->Shared->Prop
noncomputable def frs(l:List Env):List Addr:=l.filterMap (·.frame)
noncomputable abbrev Cx.fs(X:Cx):List Addr:=frs X.outer
def Vis(sc:Scope)(x:Str):Prop:=sc.names.lookup x=some .local\/sc.names.lookup x=some .cell\/sc.names.lookup x=some .free
def Loc(sc:Scope)(x:Str):Prop:=sc.names.lookup x=some .local\/sc.names.lookup x=some .cell
def Look(env:Env)(h:Heap)(m:Str->Option Value)(x:Str)(u:Value):Prop:=
 (env.kindOf x=some .local/\m x=some u)\/((env.kindOf x=some .cell\/env.kindOf x=some .free)/\∃c,env.cells.lookup x=some c/\h.IsCell c (some u))
structure Cx.Ok(X:Cx):Prop where
 mod:Mod X.K X.mg X.base
 kind:X.env.scope.kind=.function
 glob:X.env.globals=mainGlobals
 blt:X.env.builtins=builtinsNs
 above:X.s₀.heap.objs.size<=X.env.locals
 inj:∀x y c,X.env.cells.lookup x=some c->X.env.cells.lookup y=some c->x=y
 has:∀x,(X.env.kindOf x=some .cell\/X.env.kindOf x=some .free)->∃c,X.env.cells.lookup x=some c
 cab:∀x c,X.fn x=true->X.env.cells.lookup x=some c->X.s₀.heap.objs.size<=c
 hd:X.calm=true->X.A.handled=none
 frames:X.A.frames=some X.stack
 stk:X.stack=X.outer\/(X.stack=X.env::X.outer/\X.env.frame=some X.env.locals)
 exf:∀b∈X.ex,b≠X.env.locals/\∀x c,X.env.cells.lookup x=some c->c≠b
 bs:∀b o,X.base.get? b=some o->X.s₀.heap.get? b=some o/\X.H₀ b=none
 bsz:X.base.objs.size<=X.s₀.heap.objs.size
 noex:∀b o,X.base.get? b=some o->b∉X.ex
 exfs:∀b∈X.ex,b∉X.fs
 funs:X.s₀.heap.FunFrames X.base X.outer
 frf:∀b∈X.fs,X.H₀ b=none
structure Inv(X:Cx)(pins:List (Addr×Obj))(σ:List (Option V))(H:Hp)(s:Shared):Prop where
 ok:X.Ok
 os:s.os=X.s₀.os
 bare:AllBare s.gens
 base:Un X.fs X.ex X.H₀ H X.s₀.heap s.heap
 loc:∃m,s.heap.Ns X.env.locals m/\∀(i:Nat)(x:Str)(v:V),X.N[i]?=some x->σ[i]?=some (some v)->Vis X.env.scope x->∃u,RelV v u/\Look X.env s.heap m x u
 cell:∀x c,X.env.cells.lookup x=some c->∃v,s.heap.IsCell c v
 free:H X.env.locals=none
 freeC:∀x c,X.env.cells.lookup x=some c->H c=none
 pin:∀p∈X.pn++pins,s.heap.get? p.1=some p.2/\H p.1=none/\p.1≠X.env.locals/\p.1∉X.fs/\∀v,p.2.data≠ .cell v
 hok:HOk X.prog X.w H s.heap
 len:σ.length=X.N.length
section
variable{X:Cx}{pins:List (Addr×Obj)}{σ:List (Option V)}{H H':Hp}{s:Shared}{h':Heap}
theorem Cx.Ok.nofr(ok:X.Ok){b:Addr}{o:Obj}(e:X.base.get? b=some o):b∉X.fs:=fun hb=>by have:=(ok.funs.mem hb).1;rw[e]at this;cases this
theorem Inv.bs(I:Inv X pins σ H s):∀b o,X.base.get? b=some o->s.heap.get? b=some o/\H b=none:=fun b o e=>⟨I.base.keep b o (I.ok.bs b o e).1 (I.ok.bs b o e).2 (I.ok.nofr e) (I.ok.noex b o e),I.base.free b o (I.ok.bs b o e).1 (I.ok.bs b o e).2 (I.ok.noex b o e)⟩
theorem Inv.bk(I:Inv X pins σ H s):∀b o,X.base.get? b=some o->s.heap.get? b=some o:=fun b o e=>(I.bs b o e).1
theorem Inv.mod(I:Inv X pins σ H s):Mod X.K X.mg X.base:=I.ok.mod
theorem Inv.kIn(I:Inv X pins σ H s):X.K.In s.heap:=I.ok.mod.kin.keeps I.bk
theorem Inv.lt(I:Inv X pins σ H s):X.env.locals<s.heap.objs.size:=let ⟨_,hn,_⟩:=I.loc;hn.lt
theorem Inv.sz(I:Inv X pins σ H s):X.s₀.heap.objs.size<=s.heap.objs.size:=EX I.ok.above (FL I.lt)
theorem Inv.nofs(I:Inv X pins σ H s){a:Addr}(h:s.heap.objs.size<=a):a∉X.fs:=fun hb=>by obtain⟨_,o,ho,_⟩:=I.ok.funs.mem hb;exact absurd (EB (EM ho) (EX I.sz h)) (F6 _)
theorem Inv.cne(I:Inv X pins σ H s):∀x c,X.env.cells.lookup x=some c->c≠X.env.locals:=fun x c e z=>by obtain⟨v,o,ho,hd⟩:=I.cell x c e;obtain⟨m,⟨o',es,ep,ho',hd',_⟩,_⟩:=I.loc;rw[z,ho']at ho;cases ho;rw[hd']at hd;cases hd
theorem Inv.funs(I:Inv X pins σ H s):s.heap.FunFrames X.base X.outer:=by
 have all:∀(l:List Env),(∀b∈frs l,b∈X.fs)->X.s₀.heap.FunFrames X.base l->s.heap.FunFrames X.base l:=by
  intro l
  induction l with
  |nil=>intro _ _;trivial
  |cons env r ih=>intro hs hl;obtain⟨hk,⟨L,o,hf,hn,ho,hd⟩,hr⟩:=hl;have hL:L∈X.fs:=hs L (by unfold frs;rw[List.filterMap_cons,hf];exact Fg);obtain⟨sl,e⟩:=I.base.slot L o ho (I.ok.frf L hL) hL fun z=>I.ok.exfs L z hL;exact⟨hk,⟨L,_,hf,hn,e,hd⟩,ih (fun b hb=>hs b (by unfold frs;rw[List.filterMap_cons,hf];exact EZ _ hb)) hr⟩
 exact all X.outer (fun _ hb=>hb) I.ok.funs
theorem Inv.stack(I:Inv X pins σ H s):s.heap.FunFrames X.base X.stack:=by
 rcases I.ok.stk with e|⟨e,hf⟩
 ·rw[e];exact I.funs
 ·rw[e];obtain⟨m,hn,_⟩:=I.loc;refine .cons (by rw[I.ok.kind];decide) hf hn ?_ I.funs;exact Heap.get?_none_of_le (EX I.ok.bsz I.ok.above)
theorem Inv.stkSub(I:Inv X pins σ H s):∀b∈frs X.stack,b∈X.env.locals::X.fs:=fun b hb=>by
 rcases I.ok.stk with e|⟨e,hf⟩
 ·rw[e]at hb;exact EZ _ hb
 ·rw[e]at hb;unfold frs at hb;rw[List.filterMap_cons,hf]at hb;exact hb
theorem Inv.stkFree(I:Inv X pins σ H s):∀b∈frs X.stack,H b=none:=fun b hb=>by
 rcases Fd.mp (I.stkSub b hb)with e|hb
 ·rw[e];exact I.free
 ·obtain⟨_,o,ho,_⟩:=I.ok.funs.mem hb;exact I.base.free b o ho (I.ok.frf b hb) fun z=>I.ok.exfs b z hb
theorem Inv.step{g':Array GenState}{t':Nat}{d':Drawn}{ch:List Addr}(I:Inv X pins σ H s)
  (hch:∀b∈ch,(b∈X.ex\/X.s₀.heap.objs.size<=b)/\b≠X.env.locals/\(∀x c,X.env.cells.lookup x=some c->c≠b)/\∀p∈X.pn++pins,p.1≠b)
  (keep:∀b o,b≠X.env.locals->b∉X.fs->b∉ch->s.heap.get? b=some o->H b=none->h'.get? b=some o)
  (slot:∀b o,b≠X.env.locals->b∈X.fs->b∉ch->s.heap.get? b=some o->H b=none->∃sl,h'.get? b=some {o with slots:=sl}) (free:∀b o,b∉ch->s.heap.get? b=some o->H b=none->H' b=none)
  (there:∀b o,b∉ch->s.heap.get? b=some o->∃o',h'.get? b=some o')
  (tups:∀b xs,H b=some (.tup xs)->H' b=some (.tup xs)) (frzs:∀b o u,H b=some (.frz o u)->H' b=some (.frz o u)) (tbls:∀b ps,H b=some (.tbl ps)->∃more,H' b=some (.tbl (ps++more)))
  (ns:∀m,s.heap.Ns X.env.locals m->h'.Ns X.env.locals m) (hok:HOk X.prog X.w H' h') (hg:AllBare g'):
  Inv X pins σ H' {s with heap:=h',gens:=g',drawn:=d',toks:=t'}:=by
 have neL:∀b o,X.s₀.heap.get? b=some o->b≠X.env.locals:=fun b o e=>Fx (EB (EM e) I.ok.above);have neC:∀b o,X.s₀.heap.get? b=some o->b∉X.ex->b∉ch:=fun b o e hx hb=>by
  rcases (hch b hb).1 with z|z
  ·exact hx z
  ·exact absurd (EB (EM e) z) (F6 _)
 have cellK:∀x c,X.env.cells.lookup x=some c->∀v,s.heap.IsCell c v->h'.IsCell c v:=fun x c e v ⟨o,ho,hd⟩=>by
  have nch:c∉ch:=fun z=>(hch c z).2.2.1 x c e rfl;by_cases hc:c∈X.fs
  ·obtain⟨sl,q⟩:=slot c o (I.cne x c e) hc nch ho (I.freeC x c e);exact⟨_,q,hd⟩
  ·exact⟨o,keep c o (I.cne x c e) hc nch ho (I.freeC x c e),hd⟩
 refine⟨I.ok,I.os,hg,⟨fun b o e n hb hx=>?_,fun b o e n hb hx=>?_,fun b o e n hx=>?_,fun b o e hx=>?_,fun b xs e=>tups b xs (I.base.tups b xs e),fun b o xs e=>frzs b o xs (I.base.frzs b o xs e),fun b ps e=>?_⟩,?_,fun x c e=>?_,?_,fun x c e=>?_,fun p hp=>?_,hok,I.len⟩
 ·exact keep b o (neL b o e) hb (neC b o e hx) (I.base.keep b o e n hb hx) (I.base.free b o e n hx)
 ·obtain⟨sl,e1⟩:=I.base.slot b o e n hb hx;obtain⟨sl',e2⟩:=slot b _ (neL b o e) hb (neC b o e hx) e1 (I.base.free b o e n hx);exact⟨sl',e2⟩
 ·obtain⟨o',e1⟩:=I.base.there b o e hx;exact free b o' (neC b o e hx) e1 (I.base.free b o e n hx)
 ·obtain⟨o',e1⟩:=I.base.there b o e hx;exact there b o' (neC b o e hx) e1
 ·obtain⟨m1,e1⟩:=I.base.tbls b ps e;obtain⟨m2,e2⟩:=tbls b _ e1;exact⟨m1++m2,by rw[e2,Array.append_assoc]⟩
 ·obtain⟨m,hn,hl⟩:=I.loc;refine⟨m,ns m hn,fun i x v e1 e2 e3=>?_⟩;obtain⟨u,r,l⟩:=hl i x v e1 e2 e3;refine⟨u,r,?_⟩;rcases l with l|⟨k,c,e,z⟩
  ·exact .inl l
  ·exact .inr ⟨k,c,e,cellK x c e _ z⟩
 ·obtain⟨v,z⟩:=I.cell x c e;exact⟨v,cellK x c e v z⟩
 ·obtain⟨m,⟨o,_,_,ho,_⟩,_⟩:=I.loc;exact free _ o (fun z=>(hch _ z).2.1 rfl) ho I.free
 ·obtain⟨v,o,ho,hd⟩:=I.cell x c e;exact free c o (fun z=>(hch c z).2.2.1 x c e rfl) ho (I.freeC x c e)
 ·obtain⟨e,n,ne,nf,d⟩:=I.pin p hp;have nch:p.1∉ch:=fun z=>(hch p.1 z).2.2.2 p hp rfl;exact⟨keep p.1 p.2 ne nf nch e n,free p.1 p.2 nch e n,ne,nf,d⟩
theorem Inv.un{t':Nat}(I:Inv X pins σ H s)(u:Un X.fs [] H H' s.heap h')(hok:HOk X.prog X.w H' h'):Inv X pins σ H' {s with heap:=h',toks:=t'}:=by
 obtain⟨m,⟨o,es,ep,ho,r⟩,_⟩:=id I.loc;obtain⟨sl,hL⟩:=u.any ho I.free (by simp)
 exact I.step (g':=s.gens) (d':=s.drawn) (ch:=[]) (fun _ z=>nomatch z) (fun b o _ hb _ e n=>u.keep b o e n hb (by simp)) (fun b o _ hb _ e n=>u.slot b o e n hb (by simp)) (fun b o _ e n=>u.free b o e n (by simp)) (fun b o _ e=>u.there b o e (by simp)) u.tups u.frzs u.tbls (fun m' hm=>by
  obtain⟨o',es',ep',ho',r'⟩:=hm;rw[ho]at ho';cases ho'
  exact⟨_,es',ep',hL,r'⟩) hok I.bare
theorem Inv.call{g':Array GenState}{t':Nat}{d':Drawn}{ch:List Addr}(I:Inv X pins σ H s)(u:Un (frs X.stack) ch H H' s.heap h')(hok:HOk X.prog X.w H' h')(hg:AllBare g')
  (hch:∀b∈ch,(b∈X.ex\/X.s₀.heap.objs.size<=b)/\b≠X.env.locals/\(∀x c,X.env.cells.lookup x=some c->c≠b)/\∀p∈X.pn++pins,p.1≠b):
  Inv X pins σ H' {s with heap:=h',gens:=g',drawn:=d',toks:=t'}:=by
 obtain⟨m,⟨o,es,ep,ho,r⟩,_⟩:=id I.loc;obtain⟨sl,hL⟩:=u.any ho I.free fun z=>(hch _ z).2.1 rfl
 exact I.step (ch:=ch) hch (fun b o hL hb hc e n=>u.keep b o e n (fun z=>(Fd.mp (I.stkSub b z)).elim hL hb) hc) (fun b o _ _ hc e n=>u.any e n hc) (fun b o hc e n=>u.free b o e n hc) (fun b o hc e=>u.there b o e hc) u.tups u.frzs u.tbls (fun m' hm=>by
  obtain⟨o',es',ep',ho',r'⟩:=hm;rw[ho]at ho';cases ho'
  exact⟨_,es',ep',hL,r'⟩) hok hg
theorem Inv.turned{t':Nat}{it:Addr}(I:Inv X pins σ H s)(k:∀b o,b≠it->s.heap.get? b=some o->h'.get? b=some o)(hn:H it=none)(hL:it≠X.env.locals)
  (h1:it∈X.ex\/X.s₀.heap.objs.size<=it) (h2:∀x c,X.env.cells.lookup x=some c->c≠it) (h3:∀p∈X.pn++pins,p.1≠it):Inv X pins σ H {s with heap:=h',toks:=t'}:=by
 have nit:∀b u,H b=some u->b≠it:=fun b u e z=>by rw[z,hn]at e;cases e
 refine I.step (g':=s.gens) (d':=s.drawn) (ch:=[it]) (fun b hb=>?_) (fun b o _ _ hc e _=>k b o (fun z=>hc (by simp[z])) e) (fun b o _ _ hc e _=>⟨o.slots,k b o (fun z=>hc (by simp[z])) e⟩) (fun _ _ _ _ n=>n)
  (fun b o hc e=>⟨o,k b o (fun z=>hc (by simp[z])) e⟩) (fun _ _ e=>e) (fun _ _ _ e=>e) (fun b ps e=>⟨#[],by rw[e];simp⟩) (fun m hm=>?_) (fun b u e=>?_) I.bare
 ·have e:b=it:=by simpa using hb
  subst e;exact⟨h1,hL,h2,h3⟩
 ·obtain⟨o,es,ep,ho,r⟩:=hm;exact⟨o,es,ep,k _ o (Gj hL) ho,r⟩
 ·refine(I.hok b u e).stay (fun c v hc q=>k c v ?_ q) (fun _ q=>q) fun _ _ q=>q;rcases hc with z|z
  ·rw[z];exact nit b u e
  ·exact nit c _ z
theorem Inv.tok(I:Inv X pins σ H s)(t:Nat):Inv X pins σ H {s with toks:=t}:=I.un (h':=s.heap) (t':=t) Un.refl I.hok
theorem Inv.kept{t':Nat}(I:Inv X pins σ H s)(k:∀b u,s.heap.get? b=some u->h'.get? b=some u):Inv X pins σ H {s with heap:=h',toks:=t'}:=I.un (Un.kept k) (I.hok.kept k)
theorem Inv.laid{a:Addr}{o:HO}{t':Nat}(I:Inv X pins σ H s)(k:∀b u,s.heap.get? b=some u->h'.get? b=some u)(hp:s.heap.objs.size<=a)(new:cW X.prog X.w (upd H a o) h' a o):
 Inv X pins σ (upd H a o) {s with heap:=h',toks:=t'}:=I.un (Un.laid k hp (I.hok.fresh hp)) (I.hok.laid k hp new)
theorem Inv.write{x e:Addr}{o:HO}{t':Nat}(I:Inv X pins σ H s)(mu:Mut (H x))(he:e=x\/H e=some (.own x))(k:∀b u,b≠e->s.heap.get? b=some u->h'.get? b=some u)(heo:∃u,h'.get? e=some u)
 (new:cW X.prog X.w (upd H x o) h' x o):Inv X pins σ (upd H x o) {s with heap:=h',toks:=t'}:=I.un (Un.write mu he k heo) (I.hok.write mu he k heo new)
theorem Inv.weak{σ':List (Option V)}(I:Inv X pins σ H s)(hl:σ'.length=σ.length)(w:∀(i:Nat) v,σ'[i]?=some (some v)->σ[i]?=some (some v)):Inv X pins σ' H s:=
 ⟨I.ok,I.os,I.bare,I.base,let ⟨m,hn,hl'⟩:=I.loc;⟨m,hn,fun i x v e1 e2 e3=>hl' i x v e1 (w i v e2) e3⟩,I.cell,I.free,I.freeC,I.pin,I.hok,hl.trans I.len⟩
theorem Inv.pins_of{pins':List (Addr×Obj)}(I:Inv X pins σ H s)(h:∀p∈pins',s.heap.get? p.1=some p.2/\H p.1=none/\p.1≠X.env.locals/\p.1∉X.fs/\∀v,p.2.data≠ .cell v):Inv X pins' σ H s:=
 ⟨I.ok,I.os,I.bare,I.base,I.loc,I.cell,I.free,I.freeC,fun p hp=>(Ft.mp hp).elim (fun z=>I.pin p (Fc _ z)) (h p),I.hok,I.len⟩
theorem oN{N:List Str}(hN:N.Nodup){i j:Nat}{x:Str}(a:N[i]?=some x)(b:N[j]?=some x):i=j:=by obtain⟨h1,e1⟩:=ED.mp a;obtain⟨h2,e2⟩:=ED.mp b;exact(List.getElem_inj hN).mp (e1.trans e2.symm)
theorem xA{M:Model}{A:Around}{E:Value->Shared->Prop}{i:Nat}{x:Str}{v:V}{u:Value}{Q:Unit->Shared->Prop}(I:Inv X pins σ H s)(hN:X.N.Nodup)(hi:X.N[i]?=some x)(hx:Loc X.env.scope x)(r:RelV v u)
  (h:∀s',Inv X pins (σ.set i (some v)) H s'->(∃a,Heap.SameBut a s.heap s'.heap/\(a=X.env.locals\/X.env.cells.lookup x=some a))->Q () s') (hf:X.fn x=true\/X.env.scope.names.lookup x=some .local:=by first|exact .inl rfl|exact .inr rfl|assumption):wpAny M A (storeName X.env x u) Q E s:=by
 obtain⟨m,hn,hl⟩:=id I.loc;have hcls:(X.env.scope.kind== .class||(X.env.scope.kind== .module&&X.env.locals != X.env.globals))=false:=by rw[I.ok.kind];rfl
 have hiσ:i<σ.length:=by rw[I.len];exact(ED.mp hi).1
 have cne:=I.cne;have tracked:∀{a:Addr}{h':Heap},(∃o,s.heap.get? a=some o/\H a=none)->Heap.SameBut a s.heap h'->HOk X.prog X.w H h':=fun {a h'} ha hs b ob e=>by
  obtain⟨_,_,hfree⟩:=ha;refine(I.hok b ob e).stay (fun c w' hc q=>(hs.2 c ?_).trans q) (fun _ q=>q) fun _ _ q=>q;rintro rfl;rcases hc with rfl|hc
  ·rw[hfree]at e;cases e
  ·rw[hfree]at hc;cases hc
 rcases hx with hk|hk
 ·refine wpAny_storeName_local hk hn (fun h' hn' hs=>?_) hcls;obtain⟨oL,_,_,hoL,_⟩:=id hn;refine h _ ⟨I.ok,I.os,I.bare,⟨fun b o e n hb hx=>?_,fun b o e n hb hx=>?_,I.base.free,fun b o e hx=>?_,I.base.tups,I.base.frzs,I.base.tbls⟩,⟨_,hn',fun j y v' e1 e2 e3=>?_⟩,fun y c e=>?_,I.free,I.freeC,fun p hp=>?_,tracked ⟨oL,hoL,I.free⟩ hs,by simpa using I.len⟩ ⟨_,hs,.inl rfl⟩
  ·exact(hs.2 b (Fx (EB (EM e) I.ok.above))).trans (I.base.keep b o e n hb hx)
  ·obtain⟨sl,e1⟩:=I.base.slot b o e n hb hx;exact⟨sl,(hs.2 b (Fx (EB (EM e) I.ok.above))).trans e1⟩
  ·obtain⟨o',e1⟩:=I.base.there b o e hx;exact⟨o',(hs.2 b (Fx (EB (EM e) I.ok.above))).trans e1⟩
  ·by_cases hj:j=i
   ·subst hj;rw[hi]at e1;cases e1;rw[List.getElem?_set_self hiσ]at e2;cases e2;exact⟨u,r,.inl ⟨hk,by simp⟩⟩
   ·rw[List.getElem?_set_ne (Gj hj)]at e2;obtain⟨u',r',q⟩:=hl j y v' e1 e2 e3;refine⟨u',r',?_⟩;rcases q with⟨k,e⟩|⟨k,c,e,z⟩
    ·refine .inl ⟨k,?_⟩;have:y≠x:=fun e=>hj (oN hN e1 (e▸hi));simp[this,e]
    ·exact .inr ⟨k,c,e,z.sameBut hs (cne y c e)⟩
  ·obtain⟨w',z⟩:=I.cell y c e;exact⟨w',z.sameBut hs (cne y c e)⟩
  ·obtain⟨e,n,ne,nf,d⟩:=I.pin p hp;exact⟨(hs.2 p.1 ne).trans e,n,ne,nf,d⟩
 ·have hfn:X.fn x=true:=by
   rcases hf with z|z
   ·exact z
   ·rw[z]at hk;cases hk
  obtain⟨c,hc⟩:=I.ok.has x (.inl hk);obtain⟨w',z⟩:=I.cell x c hc;refine wpAny_storeName_cell I.ok.kind hk hc z (fun h' hc' hs=>?_);obtain⟨oc,hoc,hocd⟩:=id z;refine h {s with heap:=h'} ⟨I.ok,I.os,I.bare,⟨fun b o e n hb hx=>?_,fun b o e n hb hx=>?_,I.base.free,fun b o e hx=>?_,I.base.tups,I.base.frzs,I.base.tbls⟩,⟨m,hn.sameBut hs (Gj (cne x c hc)),fun j y v' e1 e2 e3=>?_⟩,fun y c' e=>?_,I.free,I.freeC,fun p hp=>?_,tracked ⟨oc,hoc,I.freeC x c hc⟩ hs,by simpa using I.len⟩ ⟨c,hs,.inr hc⟩
  ·exact(hs.2 b (Fx (EB (EM e) (I.ok.cab x c hfn hc)))).trans (I.base.keep b o e n hb hx)
  ·obtain⟨sl,e1⟩:=I.base.slot b o e n hb hx;exact⟨sl,(hs.2 b (Fx (EB (EM e) (I.ok.cab x c hfn hc)))).trans e1⟩
  ·obtain⟨o',e1⟩:=I.base.there b o e hx;exact⟨o',(hs.2 b (Fx (EB (EM e) (I.ok.cab x c hfn hc)))).trans e1⟩
  ·by_cases hj:j=i
   ·subst hj;rw[hi]at e1;cases e1;rw[List.getElem?_set_self hiσ]at e2;cases e2;exact⟨u,r,.inr ⟨.inl hk,c,hc,hc'⟩⟩
   ·rw[List.getElem?_set_ne (Gj hj)]at e2;obtain⟨u',r',q⟩:=hl j y v' e1 e2 e3;refine⟨u',r',?_⟩;rcases q with q|⟨k,c',e,z'⟩
    ·exact .inl q
    ·refine .inr ⟨k,c',e,z'.sameBut hs ?_⟩;rintro rfl;exact hj (oN hN e1 (I.ok.inj _ _ _ e hc▸hi))
  ·by_cases hcc:c'=c
   ·subst hcc;exact⟨_,hc'⟩
   ·obtain⟨w2,z2⟩:=I.cell y c' e;exact⟨w2,z2.sameBut hs hcc⟩
  ·obtain⟨e,n,ne,nf,d⟩:=I.pin p hp;refine⟨(hs.2 p.1 ?_).trans e,n,ne,nf,d⟩;intro q;rw[q,hoc]at e;have q':oc=p.2:=Fo e;exact d w' (by rw[<-q'];exact hocd)
theorem nO{M:Model}{A:Around}{E:Value->Shared->Prop}{i:Nat}{x:Str}{v:V}{u:Value}{Q:Unit->Shared->Prop}(I:Inv X pins σ H s)(hN:X.N.Nodup)(hi:X.N[i]?=some x)(hx:Loc X.env.scope x)(r:RelV v u)
  (h:∀s',Inv X pins (σ.set i (some v)) H s'->Q () s') (hf:X.fn x=true\/X.env.scope.names.lookup x=some .local:=by first|exact .inl rfl|exact .inr rfl|assumption):wpAny M A (storeName X.env x u) Q E s:=
 xA I hN hi hx r (fun s' I' _=>h s' I') hf
theorem Inv.call'{s':Shared}{ch:List Addr}(I:Inv X pins σ H s)(ho:s'.os=s.os)(u:Un (frs X.stack) ch H H' s.heap s'.heap)(hok:HOk X.prog X.w H' s'.heap)(hg:AllBare s'.gens)
  (hch:∀b∈ch,(b∈X.ex\/X.s₀.heap.objs.size<=b)/\b≠X.env.locals/\(∀x c,X.env.cells.lookup x=some c->c≠b)/\∀p∈X.pn++pins,p.1≠b):Inv X pins σ H' s':=by
 obtain⟨h',g',d',t',o'⟩:=s';have e:o'=s.os:=ho;subst e;exact I.call (g':=g') (t':=t') (d':=d') u hok hg hch
end
noncomputable abbrev XK:=Value->Option Addr->Hp->Prop
noncomputable abbrev St:=List (Option V)
noncomputable abbrev VK:=V->Hp->Prop
noncomputable abbrev TE:=St->Hp->VK->Prop
noncomputable abbrev TT:=St->Hp->(Bool->Hp->Prop)->Prop
noncomputable abbrev TA:=St->Hp->(List V->Hp->Prop)->Prop
structure Ends where
 nx:St->Hp->Prop
 rt:VK
 bk:St->Hp->Prop:=fun _ _=>False
 ct:St->Hp->Prop:=fun _ _=>False
noncomputable abbrev TS:=Ends->St->Hp->Prop
def EP(X:Cx)(pins:List (Addr×Obj))(σ:St)(Q:VK)(u:Value)(s':Shared):Prop:=∃v H',Inv X pins σ H' s'/\RelV v u/\Q v H'
def TP(X:Cx)(pins:List (Addr×Obj))(σ:St)(Q:Bool->Hp->Prop)(b:Bool)(s':Shared):Prop:=∃H',Inv X pins σ H' s'/\Q b H'
def AP(X:Cx)(pins:List (Addr×Obj))(σ:St)(Q:List V->Hp->Prop)(us:List Value)(s':Shared):Prop:=∃vs H',Inv X pins σ H' s'/\Vals vs us/\Q vs H'
def SP(X:Cx)(pins:List (Addr×Obj))(D:Ends)(f:Flow)(s':Shared):Prop:=
 match f with
 | .next=>∃σ' H',Inv X pins σ' H' s'/\D.nx σ' H'
 | .brk=>∃σ' H',Inv X pins σ' H' s'/\D.bk σ' H'
 | .cont=>∃σ' H',Inv X pins σ' H' s'/\D.ct σ' H'
 | .ret u=>∃v σ' H',Inv X pins σ' H' s'/\RelV v u/\D.rt v H'
def PE(X:Cx)(e:Expr)(t:TE):Prop:=
 ∀(pins:List (Addr×Obj))(s:Shared)(σ:St)(H:Hp)(Q:VK),Inv X pins σ H s->t σ H Q->wpAny (model X.prog X.w) X.A (eval e X.env) (EP X pins σ Q) X.xe s
def PT(X:Cx)(e:Expr)(t:TT):Prop:=
 ∀(pins:List (Addr×Obj))(s:Shared)(σ:St)(H:Hp)(Q:Bool->Hp->Prop),Inv X pins σ H s->t σ H Q->wpAny (model X.prog X.w) X.A (isTrue e X.env (eval e X.env)) (TP X pins σ Q) X.xe s
def PW(X:Cx)(e:Expr)(t:TT):Prop:=
 ∀(whole:Sem Value)(pins:List (Addr×Obj))(s:Shared)(σ:St)(H:Hp)(Q:Bool->Hp->Prop),Inv X pins σ H s->t σ H Q->wpAny (model X.prog X.w) X.A (isTrue e X.env whole) (TP X pins σ Q) X.xe s
theorem PW.pt{X:Cx}{e:Expr}{t:TT}(h:PW X e t):PT X e t:=h _
def PA(X:Cx)(es:List Expr)(t:TA):Prop:=
 ∀(pos:Pos)(pins:List (Addr×Obj))(s:Shared)(σ:St)(H:Hp)(Q:List V->Hp->Prop),Inv X pins σ H s->t σ H Q->wpAny (model X.prog X.w) X.A (spliced (backTo pos (starEach es X.env))) (AP X pins σ Q) X.xe s
def PS(X:Cx)(st:Stmt)(t:TS):Prop:=
 ∀(pins:List (Addr×Obj))(s:Shared)(σ:St)(H:Hp)(D:Ends),Inv X pins σ H s->t D σ H->wpAny (model X.prog X.w) X.A (exec st X.env) (SP X pins D) X.xe s
def PSs(X:Cx)(st:List Stmt)(t:TS):Prop:=
 ∀(pins:List (Addr×Obj))(s:Shared)(σ:St)(H:Hp)(D:Ends),Inv X pins σ H s->t D σ H->wpAny (model X.prog X.w) X.A (execs st X.env) (SP X pins D) X.xe s
theorem thn{α:Type}{t:Sem α}{Q Q':α->Shared->Prop}{M:Model}{A:Around}{E:Value->Shared->Prop}{s:Shared}(h:wpAny M A t Q E s)(hQ:∀a s,Q a s->Q' a s):wpAny M A t Q' E s:=E6 h hQ fun _ _ x=>x
section
variable{X:Cx}
def Ao(i:Nat):TE:=fun σ H Q=>∃v,σ[i]?=some (some v)/\Q v H
def tC(v:V):TE:=fun _ H Q=>Q v H
theorem B2{i:Nat}{x:Str}{pos:Pos}(hN:X.N[i]?=some x)(hv:Vis X.env.scope x)(hd:(x==("__debug__":Str))=false:=by decide)(hcd:(x==("__classdict__":Str))=false:=by decide):PE X (.Name x pos) (Ao i):=by
 intro pins s σ H Q I h;obtain⟨v,e,h⟩:=h;obtain⟨m,hn,hl⟩:=I.loc;obtain⟨u,r,l⟩:=hl i x v hN e hv;have fin:EP X pins σ Q u s:=⟨v,H,I,r,h⟩;rcases l with⟨hk,hm⟩|⟨hk,c,hc,hcell⟩
 ·exact wpAny_Name (wpAny_loadName_local I.ok.kind hk hn hm fin) hd
 ·rcases hk with hk|hk
  ·exact wpAny_Name (wpAny_loadName_cell I.ok.kind hk hc hcell fin) hd
  ·exact wpAny_Name (wpAny_loadName_free I.ok.kind hk hc hcell fin hcd) hd
theorem ae{i j pos}:PE X (.Constant (.int i) j pos) (tC (.int i)):=fun _ _ _ H _ I h=>wpAny_Constant_int ⟨.int i,H,I.tok _,⟨_,rfl⟩,h⟩
theorem eI{b j pos}:PE X (.Constant (.bool b) j pos) (tC (.bl b)):=fun _ _ _ H _ I h=>Constant_bool ⟨.bl b,H,I,rfl,h⟩
theorem jg{j pos}:PE X (.Constant .none j pos) (tC .non):=fun _ _ _ H _ I h=>Constant_none ⟨.non,H,I,rfl,h⟩
theorem aO{x j pos}:PE X (.Constant (.str x) j pos) (tC (.str x)):=fun _ _ _ H _ I h=>Calls.Constant_str ⟨.str x,H,I.tok _,⟨_,rfl⟩,h⟩
def Gl(X:Cx)(x:Str):Prop:=X.env.kindOf x=some .globalImplicit
theorem kZ{E:Value->Shared->Prop}{pins:List (Addr×Obj)}{s:Shared}{σ:St}{H:Hp}{x:Str}{u:Value}{pos:Pos}{Q:Value->Shared->Prop}(I:Inv X pins σ H s)(hg:Gl X x)(hm:X.mg x=some u)(h:Q u s)
  (hd:(x==("__debug__":Str))=false:=by decide):wpAny (model X.prog X.w) X.A (eval (.Name x pos) X.env) Q E s:=
 Calls.Name_function_global I.ok.kind hg (Calls.loadGlobal_global (by rw[I.ok.glob];exact I.mod.glob.keeps I.bk) hm h) hd
theorem j8{E:Value->Shared->Prop}{pins:List (Addr×Obj)}{s:Shared}{σ:St}{H:Hp}{x:Str}{u:Value}{pos:Pos}{Q:Value->Shared->Prop}(I:Inv X pins σ H s)(hg:Gl X x)(hm:X.mg x=none)(hv:bootBuiltins x=some u)(h:Q u s)
  (hn:x≠"__name__":=by decide) (hd:(x==("__debug__":Str))=false:=by decide):wpAny (model X.prog X.w) X.A (eval (.Name x pos) X.env) Q E s:=by
 obtain⟨mb,h1,h2⟩:=I.mod.blt;exact Calls.Name_function_global I.ok.kind hg (Calls.loadGlobal_builtin (by rw[I.ok.glob];exact I.mod.glob.keeps I.bk) hm (by rw[I.ok.blt];exact h1.keeps I.bk) ((h2 x hn).trans hv) h) hd
theorem bw{x:Str}{v:V}{u:Value}{pos:Pos}(hg:Gl X x)(hm:X.mg x=some u)(r:RelV v u)(hd:(x==("__debug__":Str))=false:=by decide):PE X (.Name x pos) (tC v):=
 fun _ _ _ H _ I h=>kZ I hg hm ⟨v,H,I,r,h⟩ hd
theorem dh{x:Str}{v:V}{u:Value}{pos:Pos}(hg:Gl X x)(hm:X.mg x=none)(hv:bootBuiltins x=some u)(r:RelV v u)(hn:x≠"__name__":=by decide)(hd:(x==("__debug__":Str))=false:=by decide):PE X (.Name x pos) (tC v):=
 fun _ _ _ H _ I h=>j8 I hg hm hv ⟨v,H,I,r,h⟩ hn hd
variable{a b:Expr}{ta tb:TE}{pos:Pos}
def PC(X:Cx)(op:CmpOp)(a b:Expr)(t:TE):Prop:=
 ∀(pins:List (Addr×Obj))(s:Shared)(σ:St)(H:Hp)(Q:VK),Inv X pins σ H s->t σ H Q->
  wpAny (model X.prog X.w) X.A (eval a X.env) (fun v s₁=>wpAny (model X.prog X.w) X.A (eval b X.env) (fun u s₂=>wpAny (model X.prog X.w) X.A (compareOp op v u) (EP X pins σ Q) X.xe s₂) X.xe s₁) X.xe s
def tB(t:TE):TT:=fun σ H Q=>t σ H fun x H1=>∃c,x=.bl c/\Q c H1
theorem B5{op:CmpOp}{t:TE}(h:PC X op a b t)(h1:behindInMarks op b=false:=by first|exact nobehind _ (by decide) (by decide)|rfl):PE X (.Compare a [op] [b] pos) t:=fun pins s σ H Q I hw=>wpAny_Compare1 (h pins s σ H Q I hw) h1
theorem cn{e:Expr}{t:TE}(h:PE X e t)(he:∀whole,isTrue e X.env whole=(do let v <-whole;standAt e.pos;holding [v] (truthy v)):=by intro _;rfl):PT X e (tB t):=by intro pins s σ H Q I hw;refine isTrue_plain (thn (h pins s σ H _ I hw) fun v s1 hPz=>?_) (he _);obtain⟨x,H1,I1,r1,q1⟩:=hPz;obtain⟨d,rfl,q⟩:=q1;cases r1;exact FP ⟨H1,I1,q⟩
variable{tA tB':TT}{rest:List Expr}
def D4(t u:TT):TT:=fun σ H Q=>t σ H fun c H1=>if c=true then u σ H1 Q else Q false H1
def tOr(t u:TT):TT:=fun σ H Q=>t σ H fun c H1=>if c=true then Q true H1 else u σ H1 Q
def DW(t:TT):TT:=fun σ H Q=>t σ H fun c H1=>Q (!c) H1
theorem e8(ha:PT X a tA):PW X (.BoolOp .And [a] pos) tA:=by
 intro wh pins s σ H Q I h;refine isTrue_and (thn (ha pins s σ H Q I h) fun c s1 e=>?_);cases c with
 |true=>exact isTrue_and_nil e
 |false=>exact e
theorem ip(ha:PT X a tA):PW X (.BoolOp .Or [a] pos) tA:=by
 intro wh pins s σ H Q I h;refine isTrue_or (thn (ha pins s σ H Q I h) fun c s1 e=>?_);cases c with
 |false=>exact isTrue_or_nil e
 |true=>exact e
theorem gg(ha:PT X a tA)(hb:PW X (.BoolOp .And (b::rest) pos) tB'):PW X (.BoolOp .And (a::b::rest) pos) (D4 tA tB'):=by
 intro wh pins s σ H Q I h;refine isTrue_and (thn (ha pins s σ H _ I h) fun c s1 hPz=>?_);obtain⟨H1,I1,q1⟩:=hPz;cases c with
 |true=>exact hb wh pins s1 σ H1 Q I1 q1
 |false=>exact⟨H1,I1,q1⟩
theorem iJ(ha:PT X a tA)(hb:PW X (.BoolOp .Or (b::rest) pos) tB'):PW X (.BoolOp .Or (a::b::rest) pos) (tOr tA tB'):=by
 intro wh pins s σ H Q I h;refine isTrue_or (thn (ha pins s σ H _ I h) fun c s1 hPz=>?_);obtain⟨H1,I1,q1⟩:=hPz;cases c with
 |true=>exact⟨H1,I1,q1⟩
 |false=>exact hb wh pins s1 σ H1 Q I1 q1
theorem cw(ha:PT X a tA):PT X (.UnaryOp .Not a pos) (DW tA):=by intro pins s σ H Q I h;exact isTrue_not (ha pins s σ H (fun c H1=>Q (!c) H1) I h)
def C5(ta tb:TE):TE:=fun σ H Q=>ta σ H fun x H1=>∃c,x=.bl c/\if c=true then tb σ H1 Q else Q (.bl false) H1
def DV(ta tb:TE):TE:=fun σ H Q=>ta σ H fun x H1=>∃c,x=.bl c/\if c=true then Q (.bl true) H1 else tb σ H1 Q
def CT(ta:TE):TE:=fun σ H Q=>ta σ H fun x H1=>∃c,x=.bl c/\Q (.bl (!c)) H1
theorem bQ{op}{t:TE}(h:PE X a t):PE X (.BoolOp op [a] pos) t:=fun pins s σ H Q I hw=>BoolOp_one (h pins s σ H Q I hw)
theorem cy(ha:PE X a ta)(hb:PE X (.BoolOp .And (b::rest) pos) tb):PE X (.BoolOp .And (a::b::rest) pos) (C5 ta tb):=by
 intro pins s σ H Q I h;refine BoolOp_and (thn (ha pins s σ H _ I h) fun v s1 hPz=>?_);obtain⟨x,H1,I1,r1,q1⟩:=hPz;obtain⟨c,rfl,q1⟩:=q1;cases r1;refine FP ?_;cases c with
 |true=>exact hb pins s1 σ H1 Q I1 q1
 |false=>exact⟨.bl false,H1,I1,rfl,q1⟩
theorem pZ(ha:PE X a ta)(hb:PE X (.BoolOp .Or (b::rest) pos) tb):PE X (.BoolOp .Or (a::b::rest) pos) (DV ta tb):=by
 intro pins s σ H Q I h;refine BoolOp_or (thn (ha pins s σ H _ I h) fun v s1 hPz=>?_);obtain⟨x,H1,I1,r1,q1⟩:=hPz;obtain⟨c,rfl,q1⟩:=q1;cases r1;refine FP ?_;cases c with
 |false=>exact hb pins s1 σ H1 Q I1 q1
 |true=>exact⟨.bl true,H1,I1,rfl,q1⟩
theorem y8(ha:PE X a ta):PE X (.UnaryOp .Not a pos) (CT ta):=by intro pins s σ H Q I h;refine UnaryOp_ (thn (ha pins s σ H _ I h) fun v s1 hPz=>?_);obtain⟨x,H1,I1,r1,q1⟩:=hPz;obtain⟨c,rfl,q1⟩:=q1;cases r1;exact not_of (FP ⟨.bl (!c),H1,I1,rfl,q1⟩)
end
def SqL(K:Frag)(H:Hp)(a:Addr)(xs:List V):Prop:=
 Rd H a (.lst xs)\/
  ∃(o:Obj)(its:Array Value)(n:Nat),K.lookup a=some o/\o.cls=.type "list"/\o.dict=none/\o.data=.seq its n/\its.size<=sizeLine/\Vals xs its.toList
def SqT(K:Frag)(H:Hp)(a:Addr)(xs:List V):Prop:=
 Rd H a (.tup xs)\/
  ∃(o:Obj)(its:Array Value)(n:Nat),K.lookup a=some o/\o.cls=.type "tuple"/\o.data=.seq its n/\its.size<=sizeLine/\Vals xs its.toList
noncomputable def Ep:Value->Option V
 | .none=>some .non
 | .bool b=>some (.bl b)
 | .int i _=>some (.int i)
 | .str x _=>some (.str x)
 | .bytes b _=>some (.byt b)
 | .float b _=>some (.flt b)
 | .ref a=>some (.ref a)
 | .type n=>some (.ty n)
 |_=>none
theorem RelV.abs{x:V}{u:Value}(r:RelV x u):Ep u=some x:=by
 cases x with
 |non=>cases r;rfl
 |bl _=>cases r;rfl
 |int _=>obtain⟨t,rfl⟩:=r;rfl
 |str _=>obtain⟨t,rfl⟩:=r;rfl
 |byt _=>obtain⟨t,rfl⟩:=r;rfl
 |flt _=>obtain⟨t,rfl⟩:=r;rfl
 |ref _=>cases r;rfl
 |ty _=>cases r;rfl
theorem RelV.inj{x y:V}{u:Value}(r:RelV x u)(q:RelV y u):x=y:=Fo (r.abs.symm.trans q.abs)
theorem Vals.inj:∀{xs ys:List V}{us:List Value},Vals xs us->Vals ys us->xs=ys
 |_,_,_,.nil,.nil=>rfl
 |_,_,_,.cons r t,.cons r' t'=>by rw[r.inj r',Vals.inj t t']
section
variable{X:Cx}{pins:List (Addr×Obj)}{σ:St}{H:Hp}{s:Shared}{a:Addr}{xs ys:List V}
theorem SqL.of{K:Frag}(h:H a=some (.lst xs)):SqL K H a xs:=.inl (.inl h)
theorem SqT.of{K:Frag}(h:H a=some (.tup xs)):SqT K H a xs:=.inl (.inl h)
theorem Inv.list(I:Inv X pins σ H s)(h:SqL X.K H a xs):∃its:List Value,Vals xs its/\PlainL s.heap a its.toArray/\xs.length<=sizeLine:=by
 rcases h with h|⟨o,its,n,hk,hc,hd,hs,hz,r⟩
 ·obtain⟨z,its,n,r,e⟩:=h.ok I.hok;exact⟨its,r,⟨_,n,e,rfl,rfl,rfl⟩,z⟩
 ·refine⟨its.toList,r,⟨o,n,I.kIn a o hk,hc,hd,by simpa using hs⟩,?_⟩;have e:=r.length;simp only[Array.length_toList]at e;omega
theorem Inv.tuple(I:Inv X pins σ H s)(h:SqT X.K H a xs):∃its:List Value,Vals xs its/\IsTup s.heap a its.toArray/\xs.length<=sizeLine:=by
 rcases h with h|⟨o,its,n,hk,hc,hs,hz,r⟩
 ·obtain⟨z,its,r,p⟩:=h.ok I.hok;exact⟨its,r,p,z⟩
 ·refine⟨its.toList,r,⟨o,I.kIn a o hk,hc,n,by simpa using hs⟩,?_⟩;have e:=r.length;simp only[Array.length_toList]at e;omega
theorem Inv.list_inj(I:Inv X pins σ H s)(h:SqL X.K H a xs)(h':SqL X.K H a ys):xs=ys:=by
 obtain⟨its,r,⟨o,n,e,_,_,d⟩,_⟩:=I.list h;obtain⟨its',r',⟨o',n',e',_,_,d'⟩,_⟩:=I.list h';rw[e]at e';cases e';rw[d]at d';injection d' with d1 _;have:its=its':=by simpa using congrArg Array.toList d1
 subst this;exact r.inj r'
theorem Inv.tuple_inj(I:Inv X pins σ H s)(h:SqT X.K H a xs)(h':SqT X.K H a ys):xs=ys:=by
 obtain⟨its,r,⟨o,e,_,n,d⟩,_⟩:=I.tuple h;obtain⟨its',r',⟨o',e',_,n',d'⟩,_⟩:=I.tuple h';rw[e]at e';cases e';rw[d]at d';injection d' with d1 _;have:its=its':=by simpa using congrArg Array.toList d1
 subst this;exact r.inj r'
end
noncomputable abbrev Cx.wish(X:Cx)(E:Value->Shared->Prop):Cx:={X with xe:=E}
noncomputable abbrev Cx.nox(X:Cx):Cx:=X.wish fun _ _=>False
theorem Cx.Ok.wish{X:Cx}(ok:X.Ok)(E:Value->Shared->Prop):(X.wish E).Ok:=
 ⟨ok.mod,ok.kind,ok.glob,ok.blt,ok.above,ok.inj,ok.has,ok.cab,ok.hd,ok.frames,ok.stk,ok.exf,ok.bs,ok.bsz,ok.noex,ok.exfs,ok.funs,ok.frf⟩
theorem Cx.Ok.unwish{X:Cx}{E:Value->Shared->Prop}(ok:(X.wish E).Ok):X.Ok:=
 ⟨ok.mod,ok.kind,ok.glob,ok.blt,ok.above,ok.inj,ok.has,ok.cab,ok.hd,ok.frames,ok.stk,ok.exf,ok.bs,ok.bsz,ok.noex,ok.exfs,ok.funs,ok.frf⟩
section
variable{X:Cx}{pins:List (Addr×Obj)}{σ:St}{H:Hp}{s:Shared}{E:Value->Shared->Prop}
theorem Inv.wish(I:Inv X pins σ H s)(E:Value->Shared->Prop):Inv (X.wish E) pins σ H s:=⟨I.ok.wish E,I.os,I.bare,I.base,I.loc,I.cell,I.free,I.freeC,I.pin,I.hok,I.len⟩
theorem Inv.unwish(I:Inv (X.wish E) pins σ H s):Inv X pins σ H s:=⟨I.ok.unwish,I.os,I.bare,I.base,I.loc,I.cell,I.free,I.freeC,I.pin,I.hok,I.len⟩
theorem SP.unwish{D:Ends}{f:Flow}{s':Shared}(h:SP (X.wish E) pins D f s'):SP X pins D f s':=by
 cases f with
 |next=>obtain⟨σ',H',I,q⟩:=h;exact⟨σ',H',I.unwish,q⟩
 |brk=>obtain⟨σ',H',I,q⟩:=h;exact⟨σ',H',I.unwish,q⟩
 |cont=>obtain⟨σ',H',I,q⟩:=h;exact⟨σ',H',I.unwish,q⟩
 |ret u=>obtain⟨v,σ',H',I,r,q⟩:=h;exact⟨v,σ',H',I.unwish,r,q⟩
theorem PSs.nox{st:List Stmt}{t:TS}(h:PSs X.nox st t):PSs X st t:=fun pins s σ H D I hw=>E6 (h pins s σ H D (I.wish _) hw) (fun _ _ q=>q.unwish) fun _ _ z=>False.elim z
end
section
variable{X:Cx}{st:Stmt}{rest:List Stmt}{t u:TS}{e:Expr}{te:TE}{pos:Pos}
def CV:TS:=fun D σ H=>D.nx σ H
def DS(t u:TS):TS:=fun D σ H=>t {D with nx:=u D} σ H
theorem aD:PSs X [] CV:=fun _ _ σ H _ I h=>wpAny_execs_nil ⟨σ,H,I,h⟩
theorem ah(h1:PS X st t)(h2:PSs X rest u):PSs X (st::rest) (DS t u):=by
 intro pins s σ H D I h;refine wpAny_execs_cons (thn (h1 pins s σ H {D with nx:=u D} I h) fun f s1 q=>?_);cases f with
 |next=>obtain⟨σ',H',I',q⟩:=q;exact h2 pins s1 σ' H' D I' q
 |ret v=>exact q
 |brk=>exact q
 |cont=>exact q
theorem ai(h1:PS X st t):PSs X [st] t:=by
 intro pins s σ H D I h;refine wpAny_execs_cons (thn (h1 pins s σ H D I h) fun f s1 q=>?_);cases f with
 |next=>exact wpAny_execs_nil q
 |ret v=>exact q
 |brk=>exact q
 |cont=>exact q
theorem Inv.quiet{pins:List (Addr×Obj)}{σ:St}{H:Hp}{s:Shared}(I:Inv X pins σ H s):interactive X.env=false:=by simp[interactive,I.ok.kind]
def C0(te:TE):TS:=fun D σ H=>te σ H fun _ H1=>D.nx σ H1
theorem de(he:PE X e te)(hs:swapsWith e none pos.line X.env=pure false:=by rfl):PS X (.Expr e pos) (C0 te):=by intro pins s σ H D I h;exact wpAny_Expr_any (thn (he pins s σ H _ I h) fun v s1 hPz=>L2.ep3 hPz fun x H1 I1 r1 q1=>⟨σ,H1,I1,q1⟩) I.quiet hs
def DU(te:TE):TS:=fun D σ H=>te σ H D.rt
theorem aw(he:PE X e te):PS X (.Return (some e) pos) (DU te):=by intro pins s σ H D I h;exact wpAny_Return_some (thn (he pins s σ H _ I h) fun v s1 hPz=>L2.ep3 hPz fun x H1 I1 r1 q1=>⟨x,σ,H1,I1,r1,q1⟩)
def DY(c:TT)(t u:TS):TS:=fun D σ H=>c σ H fun b H1=>if b=true then t D σ H1 else u D σ H1
theorem aS{c:Expr}{a b:List Stmt}{tc:TT}(hc:PT X c tc)(ha:PSs X a t)(hb:PSs X b u):PS X (.If c a b pos) (DY tc t u):=by
 intro pins s σ H D I h;refine wpAny_If (thn (hc pins s σ H _ I h) fun d s1 hPz=>?_);obtain⟨H1,I1,q1⟩:=hPz;cases d with
 |true=>exact ha pins s1 σ H1 D I1 q1
 |false=>exact hb pins s1 σ H1 D I1 q1
end
noncomputable abbrev TG:=V->St->Hp->(St->Hp->Prop)->Prop
noncomputable abbrev TGs:=List V->St->Hp->(St->Hp->Prop)->Prop
def PG(X:Cx)(target:Expr)(t:TG):Prop:=
 ∀(pins:List (Addr×Obj))(s:Shared)(σ:St)(H:Hp)(v:V)(u:Value)(Q:St->Hp->Prop),Inv X pins σ H s->RelV v u->t v σ H Q->
  wpAny (model X.prog X.w) X.A (assign target X.env u) (fun _ s'=>∃σ' H',Inv X pins σ' H' s'/\Q σ' H') X.xe s
def PGs(X:Cx)(ts:List Expr)(t:TGs):Prop:=
 ∀(pins:List (Addr×Obj))(s:Shared)(σ:St)(H:Hp)(vs:List V)(us:List Value)(Q:St->Hp->Prop),Inv X pins σ H s->Vals vs us->t vs σ H Q->
  wpAny (model X.prog X.w) X.A (assignInOrder ((assignEach ts X.env).map (·.2)) us) (fun _ s'=>∃σ' H',Inv X pins σ' H' s'/\Q σ' H') X.xe s
noncomputable abbrev CG:=V->V->V->Hp->(Hp->Prop)->Prop
def DL(X:Cx)(t:CG):Prop:=
 ∀(pins:List (Addr×Obj))(s:Shared)(σ:St)(H:Hp)(o i v:V)(ov iv u:Value)(Q:Hp->Prop),Inv X pins σ H s->RelV o ov->RelV i iv->RelV v u->t o i v H Q->
  wpAny (model X.prog X.w) X.A (setItem ov iv u) (fun _ s'=>∃H',Inv X pins σ H' s'/\Q H') X.xe s
section
variable{X:Cx}{pos:Pos}
def w9(i:Nat):TG:=fun v σ H Q=>Q (σ.set i (some v)) H
theorem bJ{i:Nat}{x:Str}(hN:X.N.Nodup)(hi:X.N[i]?=some x)(hx:Loc X.env.scope x)(hf:X.fn x=true\/X.env.scope.names.lookup x=some .local:=by first|exact .inl rfl|exact .inr rfl|assumption):PG X (.Name x pos) (w9 i):=by intro pins s σ H v u Q I r h;exact wpAny_assign_Name (nO I hN hi hx r (fun s' I'=>⟨_,H,I',h⟩) hf)
def Eo:TGs:=fun vs σ H Q=>vs=[]/\Q σ H
def DE(t:TG)(u:TGs):TGs:=fun vs σ H Q=>∃v r,vs=v::r/\t v σ H fun σ' H'=>u r σ' H' Q
theorem wI:PGs X [] Eo:=by intro pins s σ H vs us Q I r h;obtain⟨e,h⟩:=h;subst e;cases r;exact assignInOrder_nil ⟨σ,H,I,h⟩
theorem kQ{e:Expr}{es:List Expr}{t:TG}{u:TGs}(h1:PG X e t)(h2:PGs X es u)
  (hs:(assignEach (e::es) X.env).map (·.2)=assign e X.env::(assignEach es X.env).map (·.2):=by rfl):PGs X (e::es) (DE t u):=by
 intro pins s σ H vs us Q I r h;obtain⟨v,vr,e1,h⟩:=h;subst e1;cases r with
 |cons r rr=>rw[hs];refine assignInOrder_cons (thn (h1 pins s σ H _ _ _ I r h) fun _ s1 hPz=>?_);obtain⟨σ1,H1,I1,q1⟩:=hPz;exact h2 pins s1 σ1 H1 _ _ Q I1 rr q1
def Em(K:Frag)(n:Nat)(t:TGs):TG:=fun v σ H Q=>∃a xs,v=.ref a/\SqT K H a xs/\xs.length=n/\t xs σ H Q
theorem y6{es:List Expr}{k:Nat}{t:TGs}{n:Nat}(hc:X.calm=true)(h:PGs X es t)
  (hn:(assignEach es X.env).length=n:=by rfl) (hst:(assignEach es X.env).findIdx? (·.1)=none:=by rfl):PG X (.Tuple es k pos) (Em X.K n t):=by
 intro pins s σ H v u Q I r hw;obtain⟨a,xs,e1,hq,hl,hw⟩:=hw;subst e1;cases r;obtain⟨its,rv,ht,hz⟩:=I.tuple hq;refine assign_Tuple_tuple (I.ok.hd hc) ht (by simp[hn,<-hl,rv.length]) hst fun h' hx=>?_;have I1:Inv X pins σ H {s with heap:=h'}:=I.kept (t':=s.toks) fun b o e=>hx b o (Fx (EM e)) e;exact h pins _ σ H xs _ Q I1 (by simpa using rv) hw
def En(to ti:TE)(t:CG):TG:=fun v σ H Q=>to σ H fun o H1=>ti σ H1 fun i H2=>t o i v H2 fun H3=>Q σ H3
theorem B1{o i:Expr}{to ti:TE}{t:CG}(ho:PE X o to)(hi:PE X i ti)(hs:DL X t)
  (ha:∀v,assign (.Subscript o i pos) X.env v=(do
   let ov <-holding [v] (eval o X.env);let iv <-holding [v,ov] (eval i X.env)
   standAt pos
   holding [v,ov,iv] (setItem ov iv v)
   release [v,ov,iv] []):=by intro _;rfl):PG X (.Subscript o i pos) (En to ti t):=by
 intro pins s σ H v u Q I r h;rw[ha];refine Eu (Gh (thn (ho pins s σ H _ I h) fun ov s1 hPz=>?_));obtain⟨x,H1,I1,r1,q1⟩:=hPz;refine Eu (Gh (thn (hi pins s1 σ H1 _ I1 q1) fun iv s2 hPz=>?_));obtain⟨y,H2,I2,r2,q2⟩:=hPz;refine Eu (wpAny_standAt (Eu (Gh (thn (hs pins s2 σ H2 x y v ov iv u _ I2 r1 r2 r q2) fun _ s3 hPz=>?_))));obtain⟨H3,I3,q3⟩:=hPz;exact wpAny_release ⟨σ,H3,I3,q3⟩
def C4(te:TE)(g:TG):TS:=fun D σ H=>te σ H fun x H1=>g x σ H1 D.nx
theorem yV{tg e:Expr}{te:TE}{g:TG}(he:PE X e te)(hg:PG X tg g)(hs:swapsWithSole [tg] e pos.line X.env=pure false:=by rfl)(hw:swappedStores [tg] e X.env=pure none:=by rfl)
  (h1:(assignEach [tg] X.env).map (·.2)=[assign tg X.env]:=by rfl):PS X (.Assign [tg] e pos) (C4 te g):=by
 intro pins s σ H D I h;refine wpAny_Assign_stores (thn (he pins s σ H _ I h) fun v s1 hPz=>?_) hs hw;obtain⟨x,H1,I1,r1,q1⟩:=hPz;rw[h1];exact thn (hg pins s1 σ H1 x v _ I1 r1 q1) fun _ s2 q=>q
theorem az{i:Nat}{x:Str}{e:Expr}{te:TE}{pos':Pos}(hN:X.N.Nodup)(hi:X.N[i]?=some x)(hx:Loc X.env.scope x)(he:PE X e te)(hs:swapsWith e (some (.Name x pos')) pos.line X.env=pure false:=by rfl)(hf:X.fn x=true\/X.env.scope.names.lookup x=some .local:=by first|exact .inl rfl|exact .inr rfl|assumption):
  PS X (.Assign [.Name x pos'] e pos) (C4 te (w9 i)):=by
 intro pins s σ H D I h;refine wpAny_Assign_Name (thn (he pins s σ H _ I h) fun v s1 hPz=>?_) hs;obtain⟨y,H1,I1,r1,q1⟩:=hPz;exact nO I1 hN hi hx r1 (fun s2 I2=>⟨_,H1,I2,q1⟩) hf
def BL(c:TT)(tb:TS):TS:=fun D σ H=>∃W:Nat->St->Hp->Prop,(∃m,W m σ H)/\∀m σ H,W m σ H->
 c σ H fun b H1=>if b=true then ∃N:St->Hp->Prop,(∀σ' H',N σ' H'->∃m',m'<m/\W m' σ' H')/\tb {D with nx:=N,ct:=N,bk:=D.nx} σ H1 else D.nx σ H1
theorem jd{c:Expr}{body:List Stmt}{tc:TT}{tb:TS}(hp:PassesOwn (model X.prog X.w) X.A X.env X.xe)(hc:PT X c tc)(hb:PSs X body tb):PS X (.While c body [] pos) (BL tc tb):=by
 intro pins s σ H D I h;obtain⟨W,⟨m0,w0⟩,turn⟩:=h;refine wpAny_While (codeAny_whileLoop (fun n s'=>∃σ' H',Inv X pins σ' H' s'/\W n σ' H') ?_ m0 ⟨σ,H,I,w0⟩);rintro n s1 ⟨σ1,H1,I1,w1⟩;refine Gb hp (thn (hc pins s1 σ1 H1 _ I1 (turn n σ1 H1 w1)) fun b s2 hPz=>?_);obtain⟨H2,I2,q2⟩:=hPz;cases b with
 |true=>
  obtain⟨N,hN,q2⟩:=q2;rw[Fl rfl];refine Gb hp (thn (hb pins s2 σ1 H2 _ I2 q2) fun f s3 q3=>?_);cases f with
  |next=>obtain⟨σ3,H3,I3,n3⟩:=q3;obtain⟨m',hm,w3⟩:=hN σ3 H3 n3;exact⟨m',hm,σ3,H3,I3,w3⟩
  |cont=>obtain⟨σ3,H3,I3,n3⟩:=q3;obtain⟨m',hm,w3⟩:=hN σ3 H3 n3;exact⟨m',hm,σ3,H3,I3,w3⟩
  |brk=>exact q3
  |ret v=>exact q3
 |false=>rw[Fb EE];exact wpAny_execs_nil ⟨σ1,H2,I2,q2⟩
end
structure It where
 go:Nat->Hp->Prop
 yld:Nat->Hp->V->Hp->Prop
 stop:Nat->Hp->Prop
def nq(X:Cx)(pins:List (Addr×Obj))(H:Hp)(b:Addr):Prop:=
 H b=none/\b≠X.env.locals/\b∉X.fs/\(b∈X.ex\/X.s₀.heap.objs.size<=b)/\(∀x c,X.env.cells.lookup x=some c->c≠b)/\∀p∈X.pn++pins,p.1≠b
theorem Inv.fpOk{X:Cx}{pins:List (Addr×Obj)}{σ:St}{H H':Hp}{s:Shared}{b:Addr}(I:Inv X pins σ H s)(hb:s.heap.objs.size<=b)(hn:H' b=none):nq X pins H' b:=by
 refine⟨hn,Nat.ne_of_gt (EB I.lt hb),I.nofs hb,.inr (EX I.sz hb),fun x c e z=>?_,fun p hp z=>?_⟩
 ·obtain⟨v,q⟩:=I.cell x c e;exact absurd (EB q.lt (by rw[z];exact hb)) (F6 _)
 ·exact absurd (EB (EM (I.pin p hp).1) (by rw[z];exact hb)) (F6 _)
structure Turn(P:Program)(w:World)(K:Frag)(tg:Expr)(J:It)(fp:List Addr)(it:Addr)(tn:Nat->Heap->Prop):Prop where
 mem:it∈fp
 obj:∀i h,tn i h->∀b∈fp,∃o,h.get? b=some o/\∀v,o.data≠ .cell v
 keep:∀i h h',tn i h->(∀b∈fp,∀o,h.get? b=some o->h'.get? b=some o)->tn i h'
 item:∀(X:Cx),X.prog=P->X.w=w->X.K=K->X.calm=true->∀(i:Nat)(pins:List (Addr×Obj))(s:Shared)(σ:St)(H:Hp)(E:Value->Shared->Prop),Inv X pins σ H s->(∀b∈fp,nq X pins H b)->tn i s.heap->J.go i H->
  wpAny (model P w) X.A (pyNext (.ref it)) (fun r s1=>∃u,r=some u/\
   wpAny (model P w) X.A (letOwnedTupleGo tg (.ref it) u) (fun _ s2=>∃x H',Inv X pins σ H' s2/\RelV x u/\J.yld i H x H'/\tn (i+1) s2.heap/\∀b∈fp,H' b=none) E s1) E s
 done:∀(X:Cx),X.prog=P->X.w=w->X.K=K->X.calm=true->∀(i:Nat)(pins:List (Addr×Obj))(s:Shared)(σ:St)(H:Hp)(E:Value->Shared->Prop),Inv X pins σ H s->(∀b∈fp,nq X pins H b)->tn i s.heap->J.stop i H->
  wpAny (model P w) X.A (pyNext (.ref it)) (fun r s1=>r=none/\Inv X pins σ H s1) E s
 self:∀(A:Around)(i:Nat)(s:Shared)(Q:Value->Shared->Prop)(E:Value->Shared->Prop),tn i s.heap->Q (.ref it) s->wpAny (model P w) A (pyIter (.ref it)) Q E s
noncomputable abbrev TI:=St->Hp->(It->Hp->Prop)->Prop
def PIE(X:Cx)(pins:List (Addr×Obj))(σ:St)(tg:Expr)(R:It->Hp->Prop)(itv:Value)(s2:Shared):Prop:=
 ∃(it:Addr)(fp:List Addr)(tn:Nat->Heap->Prop)(J:It)(H':Hp),itv=.ref it/\Inv X pins σ H' s2/\Turn X.prog X.w X.K tg J fp it tn/\tn 0 s2.heap/\(∀b∈fp,nq X pins H' b)/\R J H'
def PI(X:Cx)(tg iter:Expr)(wi:TI):Prop:=
 ∀(pins:List (Addr×Obj))(s:Shared)(σ:St)(H:Hp)(R:It->Hp->Prop),Inv X pins σ H s->wi σ H R->
  wpAny (model X.prog X.w) X.A (eval iter X.env) (fun v s1=>wpAny (model X.prog X.w) X.A (pyIter v) (PIE X pins σ tg R) X.xe s1) X.xe s
theorem uD {M : Model} {A : Around} {E : Value → Shared → Prop} {s : Shared} {tg : Expr} {it : Addr} {u : Value} {o : Obj} {n : String} {vs : Array Value} {Q : Unit → Shared → Prop} (ho : s.heap.get? it = some o) (hc : o.cls = .type n) (hd : o.data = .fields vs)
    (hn : ["enumerate", "zip", "dict_itemiterator", "dict_reverseitemiterator", "odict_iterator", "itertools.zip_longest", "itertools.pairwise"].contains n = false) (hQ : Q () s) : wpAny M A (letOwnedTupleGo tg (.ref it) u) Q E s := by
  unfold letOwnedTupleGo
  cases tg <;> first
    | exact wpAny_pure hQ
    | (cases u <;> first
        | exact wpAny_pure hQ
        | (refine wpAny_bind (wpAny_load ho ?_)
           rw [hc, hd]
           show wpAny M A (if (["enumerate", "zip", "dict_itemiterator", "dict_reverseitemiterator", "odict_iterator", "itertools.zip_longest", "itertools.pairwise"].contains n && vs[0]? == some (rawInt _)) = true then _ else _) Q E s
           rw [if_neg (by intro h; rw [hn, Bool.false_and] at h; cases h)]
           exact wpAny_pure hQ))
noncomputable def Itl(K:Frag)(a:Addr):It:=
 ⟨fun i H=>∃xs x,SqL K H a xs/\xs[i]?=some x,fun i H x H'=>H'=H/\∀xs,SqL K H a xs->xs[i]?=some x,fun i H=>∃xs,SqL K H a xs/\xs.length<=i⟩
noncomputable def Itt(K:Frag)(a:Addr):It:=
 ⟨fun i H=>∃xs x,SqT K H a xs/\xs[i]?=some x,fun i H x H'=>H'=H/\∀xs,SqT K H a xs->xs[i]?=some x,fun i H=>∃xs,SqT K H a xs/\xs.length<=i⟩
noncomputable def Itr(lo:Int)(n:Nat):It:=⟨fun i _=>i<n,fun i H x H'=>H'=H/\x=.int (lo+i),fun i _=>n<=i⟩
theorem xu{P:Program}{w:World}{K:Frag}{tg:Expr}(a it:Addr):Turn P w K tg (Itl K a) [it] it (fun i h=>h.IsListIter it a i) where
 mem:=by simp
 obj:=fun i h st b hb=>by
  have e:b=it:=by simpa using hb
  subst e;obtain⟨o,e,c,d⟩:=st;exact⟨o,e,fun v z=>by rw[d]at z;cases z⟩
 keep:=fun i h h' st k=>st.at fun o e=>k it (by simp) o e
 item:=by intro X hP hw hK hc i pins s σ H E I hf st hg;subst hP hw hK;obtain⟨xs,x,hq,hx⟩:=hg;obtain⟨its,rv,p,hz⟩:=I.list hq;obtain⟨u,hu,ru⟩:=rv.get hx;obtain⟨f0,f1,f2,f3,f4,f5⟩:=hf it (by simp);refine wpAny_pyNext_list_item st p.isList (x:=u) (by simpa using hu) fun h' st' sb=>?_;have I1:Inv X pins σ H {s with heap:=h'}:=I.turned (t':=s.toks) (fun b o hb e=>(sb.2 b hb).trans e) f0 f1 f3 f4 f5;obtain⟨o,e,c,d⟩:=id st';exact⟨u,rfl,uD (s:={s with heap:=h'}) e c d (by decide) ⟨x,H,I1,ru,⟨rfl,fun ys hy=>by rw[I.list_inj hy hq];exact hx⟩,st',fun b hb=>(hf b hb).1⟩⟩
 done:=by intro X hP hw hK hc i pins s σ H E I hf st hg;subst hP hw hK;obtain⟨xs,hq,hx⟩:=hg;obtain⟨its,rv,p,hz⟩:=I.list hq;obtain⟨f0,f1,f2,f3,f4,f5⟩:=hf it (by simp);have hl:=rv.length;exact wpAny_pyNext_list_end (I.ok.hd hc) st p.isList (by simp;omega) fun h' eb=>⟨rfl,I.turned (t':=s.toks) (fun b o hb e=>eb b o hb e) f0 f1 f3 f4 f5⟩
 self:=fun _ _ _ _ _ st h=>wpAny_pyIter_listiter st h
theorem uZ{P:Program}{w:World}{K:Frag}{tg:Expr}(a it:Addr):Turn P w K tg (Itt K a) [it] it (fun i h=>h.IsTupleIter it a i) where
 mem:=by simp
 obj:=fun i h st b hb=>by
  have e:b=it:=by simpa using hb
  subst e;obtain⟨o,e,c,d⟩:=st;exact⟨o,e,fun v z=>by rw[d]at z;cases z⟩
 keep:=fun i h h' st k=>st.at fun o e=>k it (by simp) o e
 item:=by intro X hP hw hK hc i pins s σ H E I hf st hg;subst hP hw hK;obtain⟨xs,x,hq,hx⟩:=hg;obtain⟨its,rv,p,hz⟩:=I.tuple hq;obtain⟨u,hu,ru⟩:=rv.get hx;obtain⟨f0,f1,f2,f3,f4,f5⟩:=hf it (by simp);refine wpAny_pyNext_tuple_item st (show s.heap.IsTuple a its.toArray from p) (x:=u) (by simpa using hu) fun h' st' sb=>?_;have I1:Inv X pins σ H {s with heap:=h'}:=I.turned (t':=s.toks) (fun b o hb e=>(sb.2 b hb).trans e) f0 f1 f3 f4 f5;obtain⟨o,e,c,d⟩:=id st';exact⟨u,rfl,uD (s:={s with heap:=h'}) e c d (by decide) ⟨x,H,I1,ru,⟨rfl,fun ys hy=>by rw[I.tuple_inj hy hq];exact hx⟩,st',fun b hb=>(hf b hb).1⟩⟩
 done:=by intro X hP hw hK hc i pins s σ H E I hf st hg;subst hP hw hK;obtain⟨xs,hq,hx⟩:=hg;obtain⟨its,rv,p,hz⟩:=I.tuple hq;obtain⟨f0,f1,f2,f3,f4,f5⟩:=hf it (by simp);have hl:=rv.length;exact wpAny_pyNext_tuple_end (I.ok.hd hc) st (show s.heap.IsTuple a its.toArray from p) (by simp;omega) fun h' eb=>⟨rfl,I.turned (t':=s.toks) (fun b o hb e=>eb b o hb e) f0 f1 f3 f4 f5⟩
 self:=fun _ _ _ _ _ st h=>wpAny_pyIter_tupleiter st h
theorem u9{P:Program}{w:World}{K:Frag}{tg:Expr}(it:Addr)(lo:Int)(n:Nat):Turn P w K tg (Itr lo n) [it] it (fun i h=>IsRangeIter h it (lo+(i:Nat)*1) ((n:Int)-(i:Nat)) 1) where
 mem:=by simp
 obj:=fun i h st b hb=>by
  have e:b=it:=by simpa using hb
  subst e
  exact⟨_,st,fun v z=>by
   have z':Data.fields _=Data.cell v:=z
   cases z'⟩
 keep:=fun i h h' st k=>k it (by simp) _ st
 item:=by intro X hP hw hK hc i pins s σ H E I hf st hg;subst hP hw hK;obtain⟨f0,f1,f2,f3,f4,f5⟩:=hf it (by simp);have W:=Walks.range (prog:=X.prog) (w:=X.w) (I.ok.hd hc) it lo 1 n;refine W.item i s _ _ hg st fun v h' tk hv st' kk=>?_;obtain⟨t,rfl⟩:=hv;have I1:Inv X pins σ H {s with heap:=h',toks:=tk}:=I.turned (fun b o hb e=>kk b o (by simpa using hb) e) f0 f1 f3 f4 f5;refine⟨_,rfl,uD (s:={s with heap:=h',toks:=tk}) (n:="range_iterator") st' rfl rfl (by decide) ⟨.int (lo+i),H,I1,⟨t,?_⟩,⟨rfl,rfl⟩,st',fun b hb=>(hf b hb).1⟩⟩;rw[Int.mul_one]
 done:=by intro X hP hw hK hc i pins s σ H E I hf st hg;subst hP hw hK;obtain⟨f0,f1,f2,f3,f4,f5⟩:=hf it (by simp);exact wpAny_pyNext_range_end (I.ok.hd hc) st (by have:n<=i:=hg;omega) fun h' eb=>⟨rfl,I.turned (t':=s.toks) (fun b o hb e=>eb b o hb e) f0 f1 f3 f4 f5⟩
 self:=fun _ _ _ _ _ st h=>wpAny_pyIter_rangeiter st h
section
variable{X:Cx}{tg:Expr}
def DC(K:Frag)(tl:TE):TI:=fun σ H R=>tl σ H fun x H1=>∃a,x=.ref a/\(∃xs,SqL K H1 a xs)/\R (Itl K a) H1
def Ej(K:Frag)(tl:TE):TI:=fun σ H R=>tl σ H fun x H1=>∃a,x=.ref a/\(∃xs,SqT K H1 a xs)/\R (Itt K a) H1
theorem kP{l:Expr}{tl:TE}(hl:PE X l tl):PI X tg l (DC X.K tl):=by
 intro pins s σ H R I h;refine thn (hl pins s σ H _ I h) fun v s1 hPz=>?_;obtain⟨x,H1,I1,r1,q1⟩:=hPz;obtain⟨a,e,⟨xs,hq⟩,q⟩:=q1;subst e;cases r1;obtain⟨its,rv,p,hz⟩:=I1.list hq;refine wpAny_pyIter_list p.isList ?_;refine⟨s1.heap.objs.size,[s1.heap.objs.size],_,_,H1,rfl,I1.kept (t':=s1.toks) fun b o e=>Ex _ e,xu a _,⟨_,Fh _ rfl,rfl,rfl⟩,fun b hb=>?_,q⟩;have e:b=s1.heap.objs.size:=by simpa using hb
 subst e;exact I1.fpOk (EG _) (I1.hok.fresh (EG _))
theorem qT{l:Expr}{tl:TE}(hl:PE X l tl):PI X tg l (Ej X.K tl):=by
 intro pins s σ H R I h;refine thn (hl pins s σ H _ I h) fun v s1 hPz=>?_;obtain⟨x,H1,I1,r1,q1⟩:=hPz;obtain⟨a,e,⟨xs,hq⟩,q⟩:=q1;subst e;cases r1;obtain⟨its,rv,p,hz⟩:=I1.tuple hq;refine wpAny_pyIter_tuple (show s1.heap.IsTuple a its.toArray from p) ?_;refine⟨s1.heap.objs.size,[s1.heap.objs.size],_,_,H1,rfl,I1.kept (t':=s1.toks) fun b o e=>Ex _ e,uZ a _,⟨_,Fh _ rfl,rfl,rfl⟩,fun b hb=>?_,q⟩;have e:b=s1.heap.objs.size:=by simpa using hb
 subst e;exact I1.fpOk (EG _) (I1.hok.fresh (EG _))
theorem tK{pins:List (Addr×Obj)}{σ:St}{H:Hp}{s:Shared}{R:It->Hp->Prop}{E:Value->Shared->Prop}{lo hi:Int}{t u v:Tok}{tk:Nat}(I:Inv X pins σ H s)(h1: -(2^62)<=lo)(h2:lo<2^62)(h3: -(2^62)<=hi)(h4:hi<2^62)
  (q:R (Itr lo (hi-lo).toNat) H):wpAny (model X.prog X.w) X.A (pyIter (.ref s.heap.objs.size)) (PIE X pins σ tg R) E {s with heap:=s.heap.push {cls:=.type "range",data:=.fields #[.int lo t,.int hi u,.int 1 v]},toks:=tk}:=by
 refine wpAny_pyIter_range (IsRange.new ..) (small_one h1 h2 h3 h4) ?_;have I1:Inv X pins σ H {s with heap:=s.heap.push {cls:=.type "range",data:=.fields #[.int lo t,.int hi u,.int 1 v]},toks:=tk}:=I.kept fun b o e=>Ex _ e
 refine⟨(s.heap.push {cls:=.type "range",data:=.fields #[.int lo t,.int hi u,.int 1 v]}).objs.size,[(s.heap.push {cls:=.type "range",data:=.fields #[.int lo t,.int hi u,.int 1 v]}).objs.size],_,_,H,rfl,
  I1.kept (t':=tk) fun b o e=>Ex _ e,u9 _ lo (hi-lo).toNat,?_,fun b hb=>?_,q⟩
 ·have e1:lo+((0:Nat):Int)*1=lo:=by simp
  have e2:(((hi-lo).toNat:Nat):Int)-((0:Nat):Int)=Builtin.Range.rangeSize lo hi 1:=by rw[rangeSize_one];split<;>omega
  show IsRangeIter _ _ (lo+((0:Nat):Int)*1) ((((hi-lo).toNat:Nat):Int)-((0:Nat):Int)) 1;rw[e1,e2];exact Fh _ rfl
 ·have e:b=(s.heap.push {cls:=.type "range",data:=.fields #[.int lo t,.int hi u,.int 1 v]}).objs.size:=by simpa using hb
  subst e;exact I1.fpOk (EG _) (I1.hok.fresh (EG _))
def DB(ta:TA):TI:=fun σ H R=>ta σ H fun vs H1=>∃j:Int,vs=[.int j]/\ -(2^62)<=j/\j<2^62/\R (Itr 0 j.toNat) H1
def DA(ta:TA):TI:=fun σ H R=>ta σ H fun vs H1=>∃i j:Int,vs=[.int i,.int j]/\(-(2^62)<=i/\i<2^62/\ -(2^62)<=j/\j<2^62)/\R (Itr i (j-i).toNat) H1
theorem eT{a:Expr}{ta:TA}{p pos:Pos}(hg:Gl X "range")(hm:X.mg "range"=none)(ha:PA X [a] ta)(hs:starEach [a] X.env=[(false,eval a X.env)]:=by rfl):PI X tg (.Call (.Name "range" p) [a] [] pos) (DB ta):=by
 intro pins s σ H R I h;refine Call_ (j8 I hg hm boot_range (Ge (thn (ha pos pins s σ H _ I h) fun us s1 hPz=>?_) hs rfl));obtain⟨vs,H1,I1,r1,q1⟩:=hPz;obtain⟨j,e,q1,q2,q⟩:=q1;subst e;cases r1 with
 |cons r rr=>cases rr;obtain⟨t,rfl⟩:=r;exact call_range_1 (tK I1 (by omega) (by omega) q1 q2 (by simpa using q))
theorem xQ{a b:Expr}{ta:TA}{p pos:Pos}(hg:Gl X "range")(hm:X.mg "range"=none)(ha:PA X [a,b] ta)(hs:starEach [a,b] X.env=[(false,eval a X.env),(false,eval b X.env)]:=by rfl)(hs2:starEach [b] X.env=[(false,eval b X.env)]:=by rfl):
  PI X tg (.Call (.Name "range" p) [a,b] [] pos) (DA ta):=by
 intro pins s σ H R I h;refine Call_ (j8 I hg hm boot_range (Ge (thn (ha pos pins s σ H _ I h) fun us s1 hPz=>?_) (by rw[hs,hs2]) (by rw[hs2];rfl)));obtain⟨vs,H1,I1,r1,q1⟩:=hPz;obtain⟨i,j,e,⟨q1,q2,q3,q4⟩,q⟩:=q1;subst e;cases r1 with
 |cons r rr=>
  cases rr with
  |cons r' rr=>cases rr;obtain⟨t,rfl⟩:=r;obtain⟨t',rfl⟩:=r';exact call_range_2 (tK I1 q1 q2 q3 q4 q)
def D0(wi:TI)(g:TG)(tb:TS):TS:=fun D σ H=>wi σ H fun J H1=>∃W:Nat->Nat->St->Hp->Prop,(∃m,W 0 m σ H1)/\∀i m σ H,W i m σ H->
 (J.stop i H/\D.nx σ H)\/(J.go i H/\∃N:St->Hp->Prop,(∀σ' H',N σ' H'->∃m',m'<m/\W (i+1) m' σ' H')/\∀x H',J.yld i H x H'->g x σ H' fun σ2 H2=>tb {D with nx:=N,ct:=N,bk:=D.nx} σ2 H2)
noncomputable def oo(fp:List Addr)(h:Heap):List (Addr×Obj):=fp.filterMap fun b=>(h.get? b).map fun o=>(b,o)
theorem iq{fp:List Addr}{h:Heap}{b:Addr}{o:Obj}(hb:b∈fp)(e:h.get? b=some o):(b,o)∈oo fp h:=List.mem_filterMap.mpr ⟨b,hb,by rw[e];rfl⟩
theorem x3{fp:List Addr}{h:Heap}{p:Addr×Obj}(hp:p∈oo fp h):p.1∈fp/\h.get? p.1=some p.2:=by
 obtain⟨b,hb,e⟩:=List.mem_filterMap.mp hp;cases q:h.get? b with
 |none=>rw[q]at e;cases e
 |some o=>rw[q]at e;have e':(b,o)=p:=Fo e;subst e';exact⟨hb,q⟩
theorem Inv.pinned{pins:List (Addr×Obj)}{σ:St}{H:Hp}{s:Shared}{fp:List Addr}(I:Inv X pins σ H s)(hf:∀b∈fp,nq X pins H b)(ho:∀b∈fp,∃o,s.heap.get? b=some o/\∀v,o.data≠ .cell v):Inv X (pins++oo fp s.heap) σ H s:=
 I.pins_of fun p hp=>(Ft.mp hp).elim (fun z=>I.pin p (E4 _ z)) fun z=>by obtain⟨hb,e⟩:=x3 z;obtain⟨f0,f1,f2,_⟩:=hf p.1 hb;obtain⟨o,e',d⟩:=ho p.1 hb;rw[e]at e';cases e';exact⟨e,f0,f1,f2,d⟩
theorem Inv.unpinned{pins pl:List (Addr×Obj)}{σ:St}{H:Hp}{s:Shared}(I:Inv X (pins++pl) σ H s):Inv X pins σ H s:=I.pins_of fun p hp=>I.pin p (E4 _ (Fc _ hp))
theorem je{iter:Expr}{body:List Stmt}{wi:TI}{g:TG}{tb:TS}{pos:Pos}(hp:PassesOwn (model X.prog X.w) X.A X.env X.xe)(hc:X.calm=true)(hi:PI X tg iter wi)(hg:PG X tg g)(hb:PSs X body tb)
  (hs:∀x,foldedSetIterable iter X.env x=pure x:=by intro _;rfl):PS X (.For tg iter body [] pos) (D0 wi g tb):=by
 intro pins s σ H D I h;refine wpAny_For (thn (hi pins s σ H _ I h) fun v s1 h1=>thn h1 fun itv s2 h2=>?_) hs;obtain⟨it,fp,tn,J,H2,e,I2,T,st2,f2,W,⟨m0,w0⟩,turn⟩:=h2;subst e;have stat:∀{H':Hp},(∀b∈fp,H' b=none)->∀b∈fp,nq X pins H' b:=fun hn b hb=>⟨hn b hb,(f2 b hb).2⟩;refine codeAny_forLoop_any (fun n s'=>∃i σ' H',Inv X pins σ' H' s'/\tn i s'.heap/\(∀b∈fp,H' b=none)/\W i n σ' H') ?_ m0 ⟨0,σ,H2,I2,st2,fun b hb=>(f2 b hb).1,w0⟩;rintro n s3 ⟨i,σ3,H3,I3,st3,fr3,w3⟩;rcases turn i n σ3 H3 w3 with⟨stop,qn⟩|⟨go,N,hN,step⟩
 ·refine Gb hp (thn (T.done X rfl rfl rfl hc i pins s3 σ3 H3 X.xe I3 (stat fr3) st3 stop) fun r s4 ⟨hr,I4⟩=>?_);subst hr;exact wpAny_execs_nil ⟨σ3,H3,I4,qn⟩
 ·refine Gb hp (thn (T.item X rfl rfl rfl hc i pins s3 σ3 H3 X.xe I3 (stat fr3) st3 go) fun r s4 hPz=>?_);obtain⟨u,hr,h4⟩:=hPz;subst hr;refine Gb hp (thn h4 fun _ s5 hPz=>?_);obtain⟨x,H5,I5,r5,y5,st5,fr5⟩:=hPz;have I5':=I5.pinned (stat fr5) (T.obj _ _ st5);refine Gb hp (thn (hg _ s5 σ3 H5 x u _ I5' r5 (step x H5 y5)) fun _ s6 hPz=>?_);obtain⟨σ6,H6,I6,q6⟩:=hPz;refine Gb hp (thn (hb _ s6 σ6 H6 _ I6 q6) fun f s7 q7=>?_);have again:∀{σ7:St}{H7:Hp},Inv X (pins++oo fp s5.heap) σ7 H7 s7->N σ7 H7->∃m,m<n/\∃i σ' H',Inv X pins σ' H' s7/\tn i s7.heap/\(∀b∈fp,H' b=none)/\W i m σ' H':=fun {σ7 H7} I7 n7=>by
   obtain⟨m',hm,w7⟩:=hN σ7 H7 n7;refine⟨m',hm,i+1,σ7,H7,I7.unpinned,T.keep _ _ _ st5 fun b hb o e=>(I7.pin (b,o) (E4 _ (E4 _ (iq hb e)))).1,fun b hb=>?_,w7⟩;obtain⟨o,e,d⟩:=T.obj _ _ st5 b hb;exact(I7.pin (b,o) (E4 _ (E4 _ (iq hb e)))).2.1
  cases f with
  |next=>obtain⟨σ7,H7,I7,n7⟩:=q7;exact again I7 n7
  |cont=>obtain⟨σ7,H7,I7,n7⟩:=q7;exact again I7 n7
  |brk=>obtain⟨σ7,H7,I7,q7⟩:=q7;exact⟨σ7,H7,I7.unpinned,q7⟩
  |ret v=>obtain⟨x7,σ7,H7,I7,r7,q7⟩:=q7;exact⟨x7,σ7,H7,I7.unpinned,r7,q7⟩
end
theorem jl{K:Frag}{a:Addr}{xs:List V}{g:TG}{tb:TS}{D:Ends}{σ:St}{H:Hp}(Pv:Nat->St->Hp->Prop)(h0:Pv 0 σ H)(hl:∀i σ H,i<=xs.length->Pv i σ H->SqL K H a xs)
  (hs:∀i x σ H,xs[i]?=some x->Pv i σ H->g x σ H fun σ2 H2=>tb {D with nx:=Pv (i+1),ct:=Pv (i+1),bk:=D.nx} σ2 H2) (hd:∀σ H,Pv xs.length σ H->D.nx σ H):
  ∃W:Nat->Nat->St->Hp->Prop,(∃m,W 0 m σ H)/\∀i m σ H,W i m σ H->
   ((Itl K a).stop i H/\D.nx σ H)\/((Itl K a).go i H/\∃N:St->Hp->Prop,(∀σ' H',N σ' H'->∃m',m'<m/\W (i+1) m' σ' H')/\∀x H',(Itl K a).yld i H x H'->g x σ H' fun σ2 H2=>tb {D with nx:=N,ct:=N,bk:=D.nx} σ2 H2):=by
 refine⟨fun i m σ H=>m=xs.length-i/\i<=xs.length/\Pv i σ H,⟨xs.length,by simp,EH _,h0⟩,?_⟩;rintro i m σ H ⟨rfl,hi,p⟩;have q:=hl i σ H hi p;by_cases hlt:i<xs.length
 ·refine .inr ⟨⟨xs,xs[i],q,by simp[hlt]⟩,Pv (i+1),fun σ' H' p'=>⟨xs.length-(i+1),by omega,rfl,hlt,p'⟩,fun x H' y=>?_⟩;obtain⟨e,y⟩:=y;subst e;exact hs i x σ _ (y xs q) p
 ·have e:i=xs.length:=by omega
  subst e;exact .inl ⟨⟨xs,q,EG _⟩,hd σ H p⟩
theorem ym{lo:Int}{n:Nat}{g:TG}{tb:TS}{D:Ends}{σ:St}{H:Hp}(Pv:Nat->St->Hp->Prop)(h0:Pv 0 σ H)
  (hs:∀i σ H,i<n->Pv i σ H->g (.int (lo+i)) σ H fun σ2 H2=>tb {D with nx:=Pv (i+1),ct:=Pv (i+1),bk:=D.nx} σ2 H2) (hd:∀σ H,Pv n σ H->D.nx σ H):
  ∃W:Nat->Nat->St->Hp->Prop,(∃m,W 0 m σ H)/\∀i m σ H,W i m σ H->
   ((Itr lo n).stop i H/\D.nx σ H)\/((Itr lo n).go i H/\∃N:St->Hp->Prop,(∀σ' H',N σ' H'->∃m',m'<m/\W (i+1) m' σ' H')/\∀x H',(Itr lo n).yld i H x H'->g x σ H' fun σ2 H2=>tb {D with nx:=N,ct:=N,bk:=D.nx} σ2 H2):=by
 refine⟨fun i m σ H=>m=n-i/\i<=n/\Pv i σ H,⟨n,by simp,EH _,h0⟩,?_⟩;rintro i m σ H ⟨rfl,hi,p⟩;by_cases hlt:i<n
 ·refine .inr ⟨hlt,Pv (i+1),fun σ' H' p'=>⟨n-(i+1),by omega,rfl,hlt,p'⟩,fun x H' y=>?_⟩;obtain⟨e,y⟩:=y;subst e y;exact hs i σ _ hlt p
 ·have e:i=n:=by omega
  subst e;exact .inl ⟨EG _,hd σ H p⟩
noncomputable abbrev R2:=V->V->Hp->VK->Prop
def OpR(X:Cx)(f:Value->Value->Sem Value)(r:R2):Prop:=
 ∀(pins:List (Addr×Obj))(s:Shared)(σ:St)(H:Hp)(x y:V)(v u:Value)(Q:VK),Inv X pins σ H s->RelV x v->RelV y u->r x y H Q->
  wpAny (model X.prog X.w) X.A (f v u) (EP X pins σ Q) X.xe s
def UnR(X:Cx)(f:Value->Sem Value)(r:V->Hp->VK->Prop):Prop:=
 ∀(pins:List (Addr×Obj))(s:Shared)(σ:St)(H:Hp)(x:V)(v:Value)(Q:VK),Inv X pins σ H s->RelV x v->r x H Q->
  wpAny (model X.prog X.w) X.A (f v) (EP X pins σ Q) X.xe s
def fG(X:Cx)(f:Value)(r:List V->Hp->VK->Prop):Prop:=
 ∀(pins:List (Addr×Obj))(s:Shared)(σ:St)(H:Hp)(xs:List V)(us:List Value)(Q:VK),Inv X pins σ H s->Vals xs us->r xs H Q->
  wpAny (model X.prog X.w) X.A (call f us) (EP X pins σ Q) X.xe s
def tOp(r:R2)(ta tb:TE):TE:=fun σ H Q=>ta σ H fun x H1=>tb σ H1 fun y H2=>r x y H2 Q
def tUn(r:V->Hp->VK->Prop)(ta:TE):TE:=fun σ H Q=>ta σ H fun x H1=>r x H1 Q
noncomputable def rI(C:Int->Int->Prop)(g:Int->Int->V):R2:=fun x y H Q=>∃i j,x=.int i/\y=.int j/\C i j/\Q (g i j) H
noncomputable def rI0(g:Int->Int->V):R2:=fun x y H Q=>∃i j,x=.int i/\y=.int j/\Q (g i j) H
def rU(g:Int->V):V->Hp->VK->Prop:=fun x H Q=>∃i,x=.int i/\Q (g i) H
section
variable{X:Cx}{a b c:Expr}{ta tb tc:TE}{pos:Pos}
theorem CA(ha:PE X a ta)(hb:PE X b tb){pins:List (Addr×Obj)}{s:Shared}{σ:St}{H:Hp}{R:V->V->Hp->Prop}(I:Inv X pins σ H s)
  (h:ta σ H fun x H1=>tb σ H1 fun y H2=>R x y H2) {Q:Value->Shared->Prop} {f:Value->Value->Sem Value}
  (hf:∀v u s2 x y H2,Inv X pins σ H2 s2->RelV x v->RelV y u->R x y H2->wpAny (model X.prog X.w) X.A (f v u) Q X.xe s2):
  wpAny (model X.prog X.w) X.A (eval a X.env) (fun v s₁=>wpAny (model X.prog X.w) X.A (eval b X.env) (fun u s₂=>wpAny (model X.prog X.w) X.A (f v u) Q X.xe s₂) X.xe s₁) X.xe s:=by
 refine thn (ha pins s σ H _ I h) fun v s1 hPz=>?_;obtain⟨x,H1,I1,r1,q1⟩:=hPz;refine thn (hb pins s1 σ H1 _ I1 q1) fun u s2 hPz=>?_;obtain⟨y,H2,I2,r2,q2⟩:=hPz;exact hf v u s2 x y H2 I2 r1 r2 q2
theorem aj{op:Operator}{r:R2}(ho:OpR X (binaryOp op) r)(ha:PE X a ta)(hb:PE X b tb):PE X (.BinOp a op b pos) (tOp r ta tb):=by intro pins s σ H Q I h;exact wpAny_BinOp (CA ha hb I h fun v u s2 x y H2 I2 rx ry q=>ho pins s2 σ H2 x y v u Q I2 rx ry q)
theorem iK{op:UnaryOp}{r:V->Hp->VK->Prop}(ho:UnR X (unaryOp op) r)(ha:PE X a ta):PE X (.UnaryOp op a pos) (tUn r ta):=by intro pins s σ H Q I h;exact UnaryOp_ (thn (ha pins s σ H _ I h) fun v s1 hPz=>L2.ep3 hPz fun x H1 I1 r1 q1=>ho pins s1 σ H1 x v Q I1 r1 q1)
theorem opI{f:Value->Value->Sem Value}{C:Int->Int->Prop}{g:Int->Int->Int}
  (rule:∀(i j:Int)(t u:Tok)(s:Shared)(Q:Value->Shared->Prop)(E:Value->Shared->Prop),C i j->Q (.int (g i j) s.toks) {s with toks:=s.toks+1}->wpAny (model X.prog X.w) X.A (f (.int i t) (.int j u)) Q E s):
  OpR X f (rI C fun i j=>.int (g i j)):=by
 intro pins s σ H x y v u Q I rx ry h;obtain⟨i,j,rfl,rfl,hc,q⟩:=h;obtain⟨t,rfl⟩:=rx;obtain⟨t',rfl⟩:=ry;exact rule i j t t' s _ _ hc ⟨.int (g i j),H,I.tok _,⟨_,rfl⟩,q⟩
theorem zh{f:Value->Value->Sem Value}{g:Int->Int->Int}
  (rule:∀(i j:Int)(t u:Tok)(s:Shared)(Q:Value->Shared->Prop)(E:Value->Shared->Prop),Q (.int (g i j) s.toks) {s with toks:=s.toks+1}->wpAny (model X.prog X.w) X.A (f (.int i t) (.int j u)) Q E s):
  OpR X f (rI0 fun i j=>.int (g i j)):=by
 intro pins s σ H x y v u Q I rx ry h;obtain⟨i,j,rfl,rfl,q⟩:=h;obtain⟨t,rfl⟩:=rx;obtain⟨t',rfl⟩:=ry;exact rule i j t t' s _ _ ⟨.int (g i j),H,I.tok _,⟨_,rfl⟩,q⟩
theorem AM{f:Value->Value->Sem Value}{g:Int->Int->Bool}
  (rule:∀(i j:Int)(t u:Tok)(s:Shared)(Q:Value->Shared->Prop)(E:Value->Shared->Prop),Q (.bool (g i j)) s->wpAny (model X.prog X.w) X.A (f (.int i t) (.int j u)) Q E s):
  OpR X f (rI0 fun i j=>.bl (g i j)):=by
 intro pins s σ H x y v u Q I rx ry h;obtain⟨i,j,rfl,rfl,q⟩:=h;obtain⟨t,rfl⟩:=rx;obtain⟨t',rfl⟩:=ry;exact rule i j t t' s _ _ ⟨.bl (g i j),H,I,rfl,q⟩
def Es(i j:Int):Prop:=0<j/\j<1073741824
def DP(i j:Int):Prop:=0<=j/\j<=1000000/\i.natAbs<2^64
def CK(i j:Int):Prop:=(-(2^64)<i/\i<2^64)\/(-(2^64)<j/\j<2^64)
theorem CK.ok{i j:Int}(h:CK i j):IntMulOk i j:=by
 rcases h with⟨h1,h2⟩|⟨h1,h2⟩
 ·exact .of_left (intBits_le_64 h1 h2)
 ·exact .of_right (intBits_le_64 h1 h2)
theorem two_pow_nn(k:Nat):(0:Int)<=2^k:=by rw[two_pow_cast];exact Int.natCast_nonneg _
theorem bf:OpR X (binaryOp .Add) (rI0 fun i j=>.int (i+j)):=zh fun _ _ _ _ _ _ _ q=>add_int q
theorem aZ:OpR X (binaryOp .Sub) (rI0 fun i j=>.int (i-j)):=zh fun _ _ _ _ _ _ _ q=>sub_int q
theorem bN:OpR X (binaryOp .Mult) (rI CK fun i j=>.int (i*j)):=opI fun _ _ _ _ _ _ _ hc q=>mul_int q hc.ok
theorem cb:OpR X (binaryOp .FloorDiv) (rI Es fun i j=>.int (i / j)):=opI fun i j _ _ _ _ _ hc q=>by have h1:(0:Int)<j:=hc.1;have h2:j<1073741824:=hc.2;exact floordiv_int (by omega) (by rw[Int.fdiv_eq_ediv_of_nonneg i (by omega)];exact q) (.inl (PyProof.noPylong_small (by omega)))
theorem aY:OpR X (binaryOp .Mod) (rI (fun _ j=>0<j) fun i j=>.int (i % j)):=opI fun i j _ _ _ _ _ hc q=>by have h1:(0:Int)<j:=hc;exact mod_int' (by omega) (by rw[Int.fmod_eq_emod_of_nonneg i (by omega)];exact q)
theorem wN:OpR X (binaryOp .Mod) (rI (fun _ j=>j≠0) fun i j=>.int (i.fmod j)):=opI fun _ _ _ _ _ _ _ hc q=>mod_int' hc q
theorem bC:OpR X (binaryOp .Pow) (rI DP fun i j=>.int (i^j.toNat)):=opI fun _ _ _ _ _ _ _ hc q=>pow_int_small hc.1 hc.2.1 hc.2.2 q
theorem cK:OpR X (binaryOp .LShift) (rI DP fun i j=>.int (i*2^j.toNat)):=opI fun _ _ _ _ _ _ _ hc q=>lshift_int_small hc.1 hc.2.1 hc.2.2 q
theorem B8:OpR X (binaryOp .RShift) (rI (fun _ j=>0<=j) fun i j=>.int (i / 2^j.toNat)):=opI fun i j _ _ _ _ _ hc q=>rshift_int hc (by rw[Int.fdiv_eq_ediv_of_nonneg i (two_pow_nn _)];exact q)
theorem mi:OpR X (binaryOp .BitAnd) (rI0 fun i j=>.int (Builtin.bitAnd i j)):=zh fun _ _ _ _ _ _ _ q=>and_int q
theorem tP:OpR X (binaryOp .BitOr) (rI0 fun i j=>.int (Builtin.bitOr i j)):=zh fun _ _ _ _ _ _ _ q=>or_int q
theorem B7:OpR X (binaryOp .BitXor) (rI0 fun i j=>.int (Builtin.bitXor i j)):=zh fun _ _ _ _ _ _ _ q=>xor_int q
theorem unI{f:Value->Sem Value}{g:Int->Int}
  (rule:∀(i:Int)(t:Tok)(s:Shared)(Q:Value->Shared->Prop)(E:Value->Shared->Prop),Q (.int (g i) s.toks) {s with toks:=s.toks+1}->wpAny (model X.prog X.w) X.A (f (.int i t)) Q E s):
  UnR X f (rU fun i=>.int (g i)):=by
 intro pins s σ H x v Q I rx h;obtain⟨i,rfl,q⟩:=h;obtain⟨t,rfl⟩:=rx;exact rule i t s _ _ ⟨.int (g i),H,I.tok _,⟨_,rfl⟩,q⟩
theorem gV:UnR X (unaryOp .USub) (rU fun i=>.int (-i)):=unI fun _ _ _ _ _ q=>neg_int q
theorem yy:UnR X (unaryOp .Invert) (rU fun i=>.int (Builtin.bitNot i)):=unI fun _ _ _ _ _ q=>invert_int q
end
noncomputable def BS:V->V->Bool
 | .non,.non=>true| .non,.int _=>true| .int _,.non=>true| .non,.bl _=>true| .bl _,.non=>true| .non,.str _=>true| .str _,.non=>true
 | .int _,.int _=>true| .bl _,.bl _=>true| .str _,.str _=>true| .byt _,.byt _=>true
 | .int _,.str _=>true| .str _,.int _=>true| .bl _,.str _=>true| .str _,.bl _=>true
 |_,_=>false
noncomputable def rEq:R2:=fun x y H Q=>BS x y=true/\Q (.bl (decide (x=y))) H
noncomputable def rNe:R2:=fun x y H Q=>BS x y=true/\Q (.bl (!decide (x=y))) H
theorem xf{i j:Int}:decide (V.int i=V.int j)=(i==j):=by rw[Fu];simp
theorem zR{i j:Bool}:decide (V.bl i=V.bl j)=(i==j):=by rw[Fu];simp
theorem xb{i j:Str}:decide (V.str i=V.str j)=(i==j):=by rw[Fu];simp
theorem xh{i j:Array UInt8}:decide (V.byt i=V.byt j)=(i.toList==j.toList):=by rw[Fu];cases i;cases j;simp
section
variable{X:Cx}{a b c:Expr}{ta tb tc:TE}{pos:Pos}
theorem bx{pins:List (Addr×Obj)}{σ:St}{H:Hp}{s:Shared}{Q:VK}{k k':Bool}(I:Inv X pins σ H s)(q:Q (.bl k) H)(e:k=k'):EP X pins σ Q (.bool k') s:=by subst e;exact⟨.bl k,H,I,rfl,q⟩
theorem aV:OpR X (compareOp .Eq) rEq:=by
 intro pins s σ H x y v u Q I rx ry h;obtain⟨hs,q⟩:=h;cases x with
 |non=>
  cases rx;cases y with
  |non=>cases ry;exact PySem.EqNone.eq_none_none (bx I q (by simp))
  |bl j=>cases ry;exact PySem.EqNone.eq_none_bool (bx I q (by simp))
  |int j=>obtain⟨t',rfl⟩:=ry;exact PySem.EqNone.eq_none_int (bx I q (by simp))
  |str j=>obtain⟨t',rfl⟩:=ry;exact PySem.EqNone.eq_none_str (bx I q (by simp))
  |_=>exact absurd (show false=true from hs) EE
 |bl i=>
  cases rx;cases y with
  |non=>cases ry;exact PySem.EqNone.eq_bool_none (bx I q (by simp))
  |bl j=>cases ry;exact eq_bool (bx I q zR)
  |str j=>obtain⟨t',rfl⟩:=ry;exact PySem.EqMixed.eq_bool_str (bx I q (by simp))
  |_=>exact absurd (show false=true from hs) EE
 |int i=>
  obtain⟨t,rfl⟩:=rx;cases y with
  |non=>cases ry;exact PySem.EqNone.eq_int_none (bx I q (by simp))
  |int j=>obtain⟨t',rfl⟩:=ry;exact eq_int (bx I q xf)
  |str j=>obtain⟨t',rfl⟩:=ry;exact PySem.EqMixed.eq_int_str (bx I q (by simp))
  |_=>exact absurd (show false=true from hs) EE
 |str i=>
  obtain⟨t,rfl⟩:=rx;cases y with
  |non=>cases ry;exact PySem.EqNone.eq_str_none (bx I q (by simp))
  |bl j=>cases ry;exact PySem.EqMixed.eq_str_bool (bx I q (by simp))
  |int j=>obtain⟨t',rfl⟩:=ry;exact PySem.EqMixed.eq_str_int (bx I q (by simp))
  |str j=>obtain⟨t',rfl⟩:=ry;exact eq_str (bx I q xb)
  |_=>exact absurd (show false=true from hs) EE
 |byt i=>
  obtain⟨t,rfl⟩:=rx;cases y with
  |byt j=>obtain⟨t',rfl⟩:=ry;exact PySem.W.eq_bytes (bx I q xh)
  |_=>exact absurd (show false=true from hs) EE
 |_=>cases y<;>exact absurd (show false=true from hs) EE
theorem kR:OpR X (compareOp .NotEq) rNe:=by
 intro pins s σ H x y v u Q I rx ry h;obtain⟨hs,q⟩:=h;cases x with
 |non=>
  cases rx;cases y with
  |non=>cases ry;exact PySem.EqNone.ne_none_none (bx I q (by simp))
  |bl j=>cases ry;exact PySem.EqNone.ne_none_bool (bx I q (by simp))
  |int j=>obtain⟨t',rfl⟩:=ry;exact PySem.EqNone.ne_none_int (bx I q (by simp))
  |str j=>obtain⟨t',rfl⟩:=ry;exact PySem.EqNone.ne_none_str (bx I q (by simp))
  |_=>exact absurd (show false=true from hs) EE
 |bl i=>
  cases rx;cases y with
  |non=>cases ry;exact PySem.EqNone.ne_bool_none (bx I q (by simp))
  |bl j=>cases ry;exact ne_bool (bx I q (congrArg not zR))
  |str j=>obtain⟨t',rfl⟩:=ry;exact PySem.EqMixed.ne_bool_str (bx I q (by simp))
  |_=>exact absurd (show false=true from hs) EE
 |int i=>
  obtain⟨t,rfl⟩:=rx;cases y with
  |non=>cases ry;exact PySem.EqNone.ne_int_none (bx I q (by simp))
  |int j=>obtain⟨t',rfl⟩:=ry;exact ne_int (bx I q (congrArg not xf))
  |str j=>obtain⟨t',rfl⟩:=ry;exact PySem.EqMixed.ne_int_str (bx I q (by simp))
  |_=>exact absurd (show false=true from hs) EE
 |str i=>
  obtain⟨t,rfl⟩:=rx;cases y with
  |non=>cases ry;exact PySem.EqNone.ne_str_none (bx I q (by simp))
  |bl j=>cases ry;exact PySem.EqMixed.ne_str_bool (bx I q (by simp))
  |int j=>obtain⟨t',rfl⟩:=ry;exact PySem.EqMixed.ne_str_int (bx I q (by simp))
  |str j=>obtain⟨t',rfl⟩:=ry;exact ne_str (bx I q (congrArg not xb))
  |_=>exact absurd (show false=true from hs) EE
 |byt i=>
  obtain⟨t,rfl⟩:=rx;cases y with
  |byt j=>obtain⟨t',rfl⟩:=ry;exact PySem.W.ne_bytes (bx I q (congrArg not xh))
  |_=>exact absurd (show false=true from hs) EE
 |_=>cases y<;>exact absurd (show false=true from hs) EE
theorem ow:OpR X (compareOp .Lt) (rI0 fun i j=>.bl (decide (i<j))):=AM fun _ _ _ _ _ _ _ q=>lt_int q
theorem mT:OpR X (compareOp .LtE) (rI0 fun i j=>.bl (decide (i<=j))):=AM fun _ _ _ _ _ _ _ q=>le_int q
theorem mU:OpR X (compareOp .Gt) (rI0 fun i j=>.bl (decide (j<i))):=AM fun _ _ _ _ _ _ _ q=>gt_int q
theorem Dl:OpR X (compareOp .GtE) (rI0 fun i j=>.bl (decide (j<=i))):=AM fun _ _ _ _ _ _ _ q=>ge_int q
theorem xS:OpR X (compareOp .Lt) (fun x y H Q=>∃i j,x=.str i/\y=.str j/\Q (.bl (decide (i.cps.toList<j.cps.toList))) H):=by intro pins s σ H x y v u Q I rx ry h;obtain⟨i,j,rfl,rfl,q⟩:=h;obtain⟨t,rfl⟩:=rx;obtain⟨t',rfl⟩:=ry;exact lt_str (bx I q rfl)
theorem xT:OpR X (compareOp .In) (fun x y H Q=>∃i j,x=.str i/\y=.str j/\Q (.bl (!(Builtin.Str.occurrences j i 0 j.length 1).isEmpty)) H):=by intro pins s σ H x y v u Q I rx ry h;obtain⟨i,j,rfl,rfl,q⟩:=h;obtain⟨t,rfl⟩:=rx;obtain⟨t',rfl⟩:=ry;exact in_str (bx I q rfl)
theorem zf:OpR X (compareOp .Is) (fun x y H Q=>y=.non/\Q (.bl (decide (x=.non))) H):=by
 intro pins s σ H x y v u Q I rx ry h;obtain⟨rfl,q⟩:=h;cases ry;refine is_none_gen (bx I q ?_);cases x<;>first
  |(cases rx;rfl)
  |(obtain⟨t,rfl⟩:=rx;rfl)
theorem AL:OpR X (compareOp .IsNot) (fun x y H Q=>y=.non/\Q (.bl (!decide (x=.non))) H):=by
 intro pins s σ H x y v u Q I rx ry h;obtain⟨rfl,q⟩:=h;cases ry;refine isnot_none_gen (bx I q ?_);cases x<;>first
  |(cases rx;rfl)
  |(obtain⟨t,rfl⟩:=rx;rfl)
theorem aA(b:Expr){op:CmpOp}(h:op≠ .In:=by decide)(h2:op≠ .NotIn:=by decide):behindInMarks op b=false:=by
 have e1:(op==CmpOp.In)=false:=by cases op<;>first|rfl|exact absurd rfl h
 have e2:(op==CmpOp.NotIn)=false:=by cases op<;>first|rfl|exact absurd rfl h2
 cases b<;>simp[behindInMarks,e1,e2]
theorem ba{op:CmpOp}{r:R2}(ho:OpR X (compareOp op) r)(ha:PE X a ta)(hb:PE X b tb)(hm:behindInMarks op b=false):PE X (.Compare a [op] [b] pos) (tOp r ta tb):=by intro pins s σ H Q I h;exact wpAny_Compare1 (CA ha hb I h fun v u s2 x y H2 I2 rx ry q=>ho pins s2 σ H2 x y v u Q I2 rx ry q) hm
def BB(t:TE):TT:=fun σ H Q=>t σ H fun x H'=>∃k,x=.bl k/\Q k H'
theorem aC{op:CmpOp}{r:R2}(ho:OpR X (compareOp op) r)(ha:PE X a ta)(hb:PE X b tb)(hm:behindInMarks op b=false):PT X (.Compare a [op] [b] pos) (BB (tOp r ta tb)):=by
 intro pins s σ H Q I h
 refine wpAny_isTrue_Compare1 (thn (ha pins s σ H _ I h) fun v s1 hPz=>L2.ep3 hPz fun x H1 I1 r1 q1=>thn (hb pins s1 σ H1 _ I1 q1) fun u s2 ⟨y,H2,I2,r2,q2⟩=>thn (ho pins s2 σ H2 x y v u _ I2 r1 r2 q2) fun c s3 ⟨z,H3,I3,r3,k,e,q3⟩=>?_) hm
 subst e;cases r3;exact FP ⟨H3,I3,q3⟩
def yE(r r':R2)(ta tb tc:TE):TE:=fun σ H Q=>ta σ H fun x H1=>tb σ H1 fun y H2=>r x y H2 fun z H3=>∃k,z=.bl k/\
 (if k=true then tc σ H3 fun w' H4=>r' y w' H4 Q else Q (.bl false) H3)
theorem oq{op op':CmpOp}{r r':R2}(ho:OpR X (compareOp op) r)(ho':OpR X (compareOp op') r')(ha:PE X a ta)(hb:PE X b tb)(hc:PE X c tc)
  (hm:lastMarks [op,op'] [b,c]=false:=by with_unfolding_all rfl):PE X (.Compare a [op,op'] [b,c] pos) (yE r r' ta tb tc):=by
 intro pins s σ H Q I h
 refine Compare_chain (thn (ha pins s σ H _ I h) fun v s1 hPz=>L2.ep3 hPz fun x H1 I1 r1 q1=>chain_link (thn (hb pins s1 σ H1 _ I1 q1) fun u s2 ⟨y,H2,I2,r2,q2⟩=>thn (ho pins s2 σ H2 x y v u _ I2 r1 r2 q2) fun d s3 ⟨z,H3,I3,r3,k,e,q3⟩=>?_)) hm
 subst e;cases r3;refine FP ?_;cases k with
 |false=>exact ite_ff ⟨.bl false,H3,I3,rfl,q3⟩
 |true=>exact ite_tt (chain_last (thn (hc pins s3 σ H3 _ I3 q3) fun w' s4 ⟨z',H4,I4,r4,q4⟩=>ho' pins s4 σ H4 y z' u w' Q I4 r2 r4 q4))
theorem yU{op op':CmpOp}{r r':R2}(ho:OpR X (compareOp op) r)(ho':OpR X (compareOp op') r')(ha:PE X a ta)(hb:PE X b tb)(hc:PE X c tc)
  (hm:lastMarks [op,op'] [b,c]=false:=by with_unfolding_all rfl):PT X (.Compare a [op,op'] [b,c] pos) (BB (yE r r' ta tb tc)):=by
 intro pins s σ H Q I h
 refine isTrue_chain (thn (ha pins s σ H _ I h) fun v s1 hPz=>L2.ep3 hPz fun x H1 I1 r1 q1=>test_link (thn (hb pins s1 σ H1 _ I1 q1) fun u s2 ⟨y,H2,I2,r2,q2⟩=>thn (ho pins s2 σ H2 x y v u _ I2 r1 r2 q2) fun d s3 ⟨z,H3,I3,r3,k,e,q3⟩=>?_)) hm
 subst e;cases r3;refine FP ?_;cases k with
 |false=>obtain⟨k',e',q'⟩:=q3;cases e';exact ite_ff ⟨H3,I3,q'⟩
 |true=>refine ite_tt (test_last (thn (hc pins s3 σ H3 _ I3 q3) fun w' s4 ⟨z',H4,I4,r4,q4⟩=>thn (ho' pins s4 σ H4 y z' u w' _ I4 r2 r4 q4) fun d' s5 hPz=>?_));obtain⟨z2,H5,I5,r5,k2,e2,q5⟩:=hPz;subst e2;cases r5;exact FP ⟨H5,I5,q5⟩
theorem mw:(sizeLine:Nat)<2^63:=by rw[sizeLine_eq];decide
theorem oz:OpR X (binaryOp .Add) (fun x y H Q=>∃i j,x=.str i/\y=.str j/\i.length+j.length<=sizeLine/\Q (.str (i++j)) H):=by intro pins s σ H x y v u Q I rx ry h;obtain⟨i,j,rfl,rfl,hz,q⟩:=h;obtain⟨t,rfl⟩:=rx;obtain⟨t',rfl⟩:=ry;exact add_str (fun t' tk=>⟨.str (i++j),H,I.tok _,⟨_,rfl⟩,q⟩) hz
theorem vals1{x:V}{us:List Value}(r:Vals [x] us):∃u,us=[u]/\RelV x u:=by
 cases r with
 |cons r1 r2=>cases r2;exact⟨_,rfl,r1⟩
theorem vals2{x y:V}{us:List Value}(r:Vals [x,y] us):∃u w',us=[u,w']/\RelV x u/\RelV y w':=by
 cases r with
 |cons r1 r2=>
  cases r2 with
  |cons r3 r4=>cases r4;exact⟨_,_,rfl,r1,r3⟩
theorem uM:fG X (.builtin "abs") (fun xs H Q=>∃i,xs=[.int i]/\Q (.int (if i<0 then-i else i)) H):=by intro pins s σ H xs us Q I r h;obtain⟨i,rfl,q⟩:=h;obtain⟨u,rfl,t,rfl⟩:=vals1 r;exact call_abs_int fun u tk=>⟨.int (if i<0 then-i else i),H,I.tok _,⟨_,rfl⟩,q⟩
theorem jz:fG X (.type "int") (fun xs H Q=>(∃i,xs=[.int i]/\Q (.int i) H)\/∃k,xs=[.bl k]/\Q (.int (if k then 1 else 0)) H):=by
 intro pins s σ H xs us Q I r h;rcases h with⟨i,rfl,q⟩|⟨k,rfl,q⟩
 ·obtain⟨u,rfl,t,rfl⟩:=vals1 r;exact call_int_int ⟨.int i,H,I,⟨_,rfl⟩,q⟩
 ·obtain⟨u,rfl,r1⟩:=vals1 r;cases r1;exact call_int_bool ⟨.int (if k then 1 else 0),H,I.tok _,⟨_,rfl⟩,q⟩
end
structure CI(h:Heap)(x dx C:Addr)(mA:Str->Option Value):Prop where
 obj:h.get? x=some (PySem.W.instObj C dx)
 ns:h.Ns1 dx mA
 ne:dx≠x
theorem qf{h:Heap}{dx:Addr}{mA:Str->Option Value}(n:h.Ns1 dx mA):∃od,h.get? dx=some od/\∀name,PySem.W.lookIn name od=some (mA name):=by
 obtain⟨o,es,ep,ho,hd,hk,_,hm⟩:=n;refine⟨o,ho,fun name=>?_⟩;have e:=hm name;unfold nsFind findBy at e;rw[<-Array.find?_toList]at e;unfold PySem.W.lookIn;rw[hd];dsimp only;split
 ·rename_i y q;rw[q]at e;exact congrArg some e
 ·rename_i q;rw[q]at e;have a:es.toList.any (·.refKey)=false:=by
   rw[List.any_eq_false];intro y hy;obtain⟨z,t,hkey⟩:=hk y (Array.mem_toList_iff.mp hy);simp[DictEntry.refKey,hkey]
  have a':¬es.toList.any (·.refKey)=true:=by rw[a];exact EE
  rw[Fb a'];exact congrArg some e
theorem CI.look{h:Heap}{x dx C:Addr}{mA:Str->Option Value}(I:CI h x dx C mA):∃od,PySem.W.InstAt h x (PySem.W.instObj C dx) C (some od)/\∀name,PySem.W.lookIn name od=some (mA name):=
 let ⟨od,ho,hl⟩:=qf I.ns
 ⟨od,⟨I.obj,rfl,rfl,ho⟩,hl⟩
theorem lT.some_of{v:V}{o:Option Value}(r:lT (some v) o):∃u,o=some u/\RelV v u:=by
 cases o with
 |none=>exact(show False from r).elim
 |some u=>exact⟨u,rfl,r⟩
theorem yh{v:V}{u:Value}(r:RelV v u):PySem.W.handedIn u=true:=by
 cases v with
 |non=>cases (show u=Value.none from r);rfl
 |bl b=>cases (show u=Value.bool b from r);rfl
 |int i=>obtain⟨t,e⟩:=(show ∃t,u=Value.int i t from r);cases e;rfl
 |str x=>obtain⟨t,e⟩:=(show ∃t,u=Value.str x t from r);cases e;rfl
 |byt b=>obtain⟨t,e⟩:=(show ∃t,u=Value.bytes b t from r);cases e;rfl
 |flt b=>obtain⟨t,e⟩:=(show ∃t,u=Value.float b t from r);cases e;rfl
 |ref a=>cases (show u=Value.ref a from r);rfl
 |ty n=>cases (show u=Value.type n from r);rfl
section
variable{P:Program}{w:World}{H H':Hp}{h h':Heap}{a C dx:Addr}{fs fs':List (Str×V)}
theorem A7(hok:HOk P w H h)(e:H a=some (.ins C dx fs)):∃mA,CI h a dx C mA/\(∀f,lT (fs.lookup f) (mA f))/\PySem.Within mA (fs.map (·.1))/\fs.length<=1000/\H dx=some (.own a):=by obtain⟨d,z,ne,ob,mA,n,r,q⟩:=(show cW P w H h a (.ins C dx fs)from hok a _ e);exact⟨mA,⟨ob,n,ne⟩,r,q,z,d⟩
end
structure Cls(K:Frag)(C:Addr):Prop where
 pg:PySem.W.plainGet K C Str.empty=true
 hd:PySem.W.hasDictIn K C=true
 po:PySem.W.plainOver K C=true
 sa:findIn K (.ref C) "__setattr__"=some (some (.builtin "object.__setattr__"))
theorem Cls.get{K:Frag}{C:Addr}(c:Cls K C)(f:Str):PySem.W.plainGet K C f=true:=c.pg
section
variable{X:Cx}{pins:List (Addr×Obj)}{σ:St}{H:Hp}{s:Shared}{a C dx:Addr}{fs:List (Str×V)}{f:Str}{v:V}{A:Around}{E:Value->Shared->Prop}
theorem Bv{prog:Program}{w:World}{env:Env}{e:Expr}{f:Str}{pos:Pos}{s:Shared}{Q:Value->Shared->Prop}(hb:attributeBase e f env (eval e env)=eval e env)
  (h:wpAny (model prog w) A (eval e env) (fun o s₁=>wpAny (model prog w) A (getAttr o f true) Q E s₁) E s):wpAny (model prog w) A (eval (.Attribute e f pos) env) Q E s:=
 Attribute_any_ h (by rw[arm_eval_Attribute,hb])
end
section
variable{X:Cx}{pins:List (Addr×Obj)}{σ:St}{H:Hp}{s:Shared}{A:Around}{E:Value->Shared->Prop}{Q:Value->Shared->Prop}{c:Value}{b:Bool}
inductive dJ(K:Frag)(H:Hp):V->Value->Prop where
 |non:dJ K H .non (.type "NoneType")
 |bl (x:Bool):dJ K H (.bl x) (.type "bool")
 |int (i:Int):dJ K H (.int i) (.type "int")
 |str (x:Str):dJ K H (.str x) (.type "str")
 |flt (x:UInt64):dJ K H (.flt x) (.type "float")
 |lst {a:Addr} {xs:List V} (e:H a=some (.lst xs)):dJ K H (.ref a) (.type "list")
 |frz {a:Addr} {o:Obj} {xs:List V} (e:H a=some (.frz o (.lst xs))):dJ K H (.ref a) (.type "list")
 |tup {a:Addr} {xs:List V} (e:H a=some (.tup xs)):dJ K H (.ref a) (.type "tuple")
 |dK {a:Addr} {kvs:List (Key×V)} (e:H a=some (.dK kvs)):dJ K H (.ref a) (.type "dict")
 |dT {a:Addr} {kvs:List (List Key×V)} (e:H a=some (.dT kvs)):dJ K H (.ref a) (.type "dict")
 |ins {a C dx:Addr} {fs:List (Str×V)} (e:H a=some (.ins C dx fs)) (cl:Cls K C) (ha:findIn K (.ref C) "__class__"=some (some (.builtin "object.__class__")))
  (hn:PySem.W.specialIn K (.builtin "object.__class__") "__get__"=some (some (.builtin "getset_descriptor.__get__"))) (htk:PySem.W.takesIn K (.builtin "object.__class__")=some true)
  (hm:mroIn K C (.type "object")=some true):dJ K H (.ref a) (.ref C)
theorem yd{x:V}{u t:Value}(I:Inv X pins σ H s)(rx:RelV x u)(ty:dJ X.K H x t)(e:kitOne X.K t c=some b)(h:∀tk,Q (.bool b) {s with toks:=tk}):
  wpAny (model X.prog X.w) A (call (.builtin "isinstance") [u,c]) Q E s:=by
 cases ty with
 |non=>cases (show u=Value.none from rx);exact FF PySem.W.kitx_none I.kIn True.intro e (fun z=>nomatch z) h
 |bl y=>cases (show u=Value.bool y from rx);exact FF PySem.W.kitx_bool I.kIn True.intro e (fun z=>nomatch z) h
 |int i=>obtain⟨t,q⟩:=(show ∃t,u=Value.int i t from rx);cases q;exact FF PySem.W.kitx_int I.kIn True.intro e (fun z=>nomatch z) h
 |str y=>obtain⟨t,q⟩:=(show ∃t,u=Value.str y t from rx);cases q;exact FF PySem.W.kitx_str I.kIn True.intro e (fun z=>nomatch z) h
 |flt y=>obtain⟨t,q⟩:=(show ∃t,u=Value.float y t from rx);cases q;exact FF PySem.W.kitx_float I.kIn True.intro e (fun z=>nomatch z) h
 | @lst a xs ea=>cases (show u=Value.ref a from rx);obtain⟨_,_,n,_,h1⟩:=(show cW X.prog X.w H s.heap a (.lst xs)from I.hok a _ ea);exact FF PySem.W.kitx_list I.kIn ⟨_,h1,rfl⟩ e (fun z=>nomatch z) h
 | @frz a ob xs ea=>cases (show u=Value.ref a from rx);obtain⟨_,_,_,n,_,h1⟩:=(show cW X.prog X.w H s.heap a (.frz ob (.lst xs))from I.hok a _ ea);exact FF PySem.W.kitx_list I.kIn ⟨_,h1,rfl⟩ e (fun z=>nomatch z) h
 | @tup a xs ea=>cases (show u=Value.ref a from rx);obtain⟨_,_,_,p⟩:=(show cW X.prog X.w H s.heap a (.tup xs)from I.hok a _ ea);obtain⟨o,h1,h2,_⟩:=p;exact FF PySem.W.kitx_tuple I.kIn ⟨o,h1,h2⟩ e (fun z=>nomatch z) h
 | @dK a kvs ea=>cases (show u=Value.ref a from rx);obtain⟨_,_,vs,_,p⟩:=(show cW X.prog X.w H s.heap a (.dK kvs)from I.hok a _ ea);obtain⟨o,es,ep,h1,h2,_⟩:=p;exact FF PySem.W.kitx_dict I.kIn ⟨o,h1,h2.1⟩ e (fun z=>nomatch z) h
 | @dT a kvs ea=>cases (show u=Value.ref a from rx);obtain⟨_,_,xs,_,o,es,ep,h1,h2,_⟩:=(show cW X.prog X.w H s.heap a (.dT kvs)from I.hok a _ ea);exact FF PySem.W.kitx_dict I.kIn ⟨o,h1,h2.1⟩ e (fun z=>nomatch z) h
 | @ins a C dx fs ea cl ha hn htk hm=>cases (show u=Value.ref a from rx);obtain⟨mA,O,_⟩:=A7 I.hok ea;obtain⟨od,J,_⟩:=O.look;exact FF (PySem.W.kitx_own (cl.get _) cl.hd ha hn htk hm) I.kIn J e (fun z=>nomatch z) h
end
structure eA(k:Nat)(A:Around):Prop where
 hd:A.handled=none
 dp:A.depth+3*k+5<recursionLimit
 un:A.units+16*k+200<cLine
theorem eA.mono{j k:Nat}{A:Around}(r:eA k A)(h:j<=k):eA j A:=⟨r.hd,by have:=r.dp;omega,by have:=r.un;omega⟩
theorem eA.deeper{k:Nat}{A:Around}(r:eA (k+1) A)(env:Env):eA k (A.deeper env):=
 ⟨r.hd,by have:=r.dp;show A.depth+1+3*k+5<_;omega,by have:=r.un;show A.units+3+16*k+200<_;omega⟩
theorem vN{A:Around}{C:Addr}{us:List Value}{kw:List (Str×Value)}:(A.under (.builtin "type.__call__" ⟨.ref C::us,kw⟩)).depth=A.depth+1:=by first|rfl|simp[Around.under,Code.weight,Code.isCreation,Code.isGuard,Code.isCaller,Code.frames,Code.isFrame,guardIds]
theorem vM{A:Around}{C:Addr}{us:List Value}{kw:List (Str×Value)}:(A.under (.builtin "type.__call__" ⟨.ref C::us,kw⟩)).units=A.units+1:=by first|rfl|simp[Around.under,Code.cUnits,Code.frames,Code.isFrame]
theorem eA.make{k:Nat}{A:Around}(r:eA (k+1) A)(C:Addr)(us:List Value)(kw:List (Str×Value)):eA k (A.under (.builtin "type.__call__" ⟨.ref C::us,kw⟩)):=
 ⟨r.hd,by have:=r.dp;rw[vN];omega,by have:=r.un;rw[vM];omega⟩
theorem eA.depth{k:Nat}{A:Around}(r:eA k A):A.depth<recursionLimit:=by have:=r.dp;omega
theorem eA.units{k:Nat}{A:Around}(r:eA k A):A.units+64<cLine:=by have:=r.un;omega
def CU:TA:=fun _ H Q=>Q [] H
def BC(ta:TE)(tr:TA):TA:=fun σ H Q=>ta σ H fun x H1=>tr σ H1 fun xs H2=>Q (x::xs) H2
section
variable{X:Cx}{e:Expr}{es:List Expr}{te:TE}{t:TA}{pos:Pos}
theorem af:PA X [] CU:=fun _ _ _ _ H Q I h=>Calls.spliced_nil ⟨[],H,I,.nil,h⟩
theorem aa(ha:PE X e te)(hr:PA X es t)(hs:starEach (e::es) X.env=(false,eval e X.env)::starEach es X.env:=by rfl):PA X (e::es) (BC te t):=by intro pos pins s σ H Q I h;rw[hs];show wpAny _ _ (spliced ((false,eval e X.env)::backTo pos (starEach es X.env))) _ _ s;refine Calls.spliced_cons (thn (ha pins s σ H _ I h) fun u s1 hPz=>?_);obtain⟨x,H1,I1,r1,q1⟩:=hPz;exact thn (hr pos pins s1 σ H1 _ I1 q1) fun us s2 hPz=>L2.ep3 hPz fun xs H2 I2 r2 q2=>⟨x::xs,H2,I2,.cons r1 r2,q2⟩
def DR(t:TA):TE:=fun σ H Q=>t σ H fun xs H1=>xs.length<=sizeLine/\∀p,H1 p=none->Q (.ref p) (upd H1 p (.tup xs))
def DX(t:TA):TE:=fun σ H Q=>t σ H fun xs H1=>xs.length<=sizeLine/\∀p,H1 p=none->Q (.ref p) (upd H1 p (.lst xs))
theorem bu{x1}(h:PA X es t):PE X (.Tuple es x1 pos) (DR t):=by intro pins s σ H Q I hq;refine wpAny_Tuple_spliced (thn (h pos pins s σ H _ I hq) fun us s1 ⟨xs,H1,I1,r,z,q⟩=>⟨by rw[<-r.length];exact z,?_⟩);have hf:H1 s1.heap.objs.size=none:=I1.hok.fresh (EG _);refine⟨.ref s1.heap.objs.size,upd H1 s1.heap.objs.size (.tup xs),I1.laid (t':=s1.toks) (fun b u e=>Ex _ e) (EG _) ?_,rfl,q _ hf⟩;exact⟨z,us,r,⟨_,Fh _ rfl,rfl,_,rfl⟩⟩
theorem bK(h:PA X es t):PE X (.List es pos) (DX t):=by intro pins s σ H Q I hq;refine wpAny_List_spliced (thn (h pos pins s σ H _ I hq) fun us s1 ⟨xs,H1,I1,r,z,q⟩=>⟨by rw[<-r.length];exact z,?_⟩);have hf:H1 s1.heap.objs.size=none:=I1.hok.fresh (EG _);refine⟨.ref s1.heap.objs.size,upd H1 s1.heap.objs.size (.lst xs),I1.laid (t':=s1.toks) (fun b u e=>Ex _ e) (EG _) ?_,rfl,q _ hf⟩;exact⟨z,us,0,r,Fh _ rfl⟩
end
noncomputable abbrev Sp:=List V->Hp->VK->XK->Prop
noncomputable abbrev CXT:=List Env->Hp->Shared->XK->Value->Shared->Prop
structure wg(P:Program)(w:World)(K:Frag)(mg:Str->Option Value)(base:Heap)(A:Around)(outer:List Env)(s:Shared)(H:Hp):Prop where
 frames:A.frames=some outer
 mod:Mod K mg base
 bs:∀b o,base.get? b=some o->s.heap.get? b=some o/\H b=none
 bsz:base.objs.size<=s.heap.objs.size
 funs:s.heap.FunFrames base outer
 frf:∀b∈frs outer,H b=none
 hok:HOk P w H s.heap
 bare:AllBare s.gens
def CE(outer:List Env)(P:Program)(w:World)(H:Hp)(s:Shared)(Q:VK)(u:Value)(s':Shared):Prop:=
 ∃v H',s'.os=s.os/\AllBare s'.gens/\Un (frs outer) [] H H' s.heap s'.heap/\HOk P w H' s'.heap/\RelV v u/\Q v H'
def CR(CX:CXT)(outer:List Env)(P:Program)(w:World)(H:Hp)(s:Shared)(Q:VK)(E:XK)(r:Result)(s':Shared):Prop:=
 match r with
 | .ok (.ret u)=>CE outer P w H s Q u s'
 | .ok _=>False
 | .error e=>CX outer H s E e s'
structure lV(P:Program)(w:World)(K:Frag)(mg:Str->Option Value)(base:Heap)(CX:CXT)(k:Nat)(f:Addr)(fd:FuncData)(ps:List Str)(sp:Sp):Prop where
 len:∀vs H Q E,sp vs H Q E->vs.length=ps.length
 run:∀(A:Around)(outer:List Env)(s:Shared)(H:Hp)(args:Args)(us:List Value)(vs:List V)(Q:VK)(E:XK),eA k A->wg P w K mg base A outer s H->BindsTo s fd args (ps.zip us)->Vals vs us->sp vs H Q E->
  codeAny (model P w) A (.call (.ref f) args) (CR CX outer P w H s Q E) s
theorem wg.make{P:Program}{w:World}{K:Frag}{mg:Str->Option Value}{base:Heap}{A:Around}{outer:List Env}{s:Shared}{H:Hp}(e:wg P w K mg base A outer s H)(C:Addr)(us:List Value)(kw:List (Str×Value)):
 wg P w K mg base (A.under (.builtin "type.__call__" ⟨.ref C::us,kw⟩)) outer s H:=⟨by first|exact e.frames|(simpa[Around.under,Code.envs,Code.isFrame,pushEnvs]using e.frames),e.mod,e.bs,e.bsz,e.funs,e.frf,e.hok,e.bare⟩
section
variable{X:Cx}{pins:List (Addr×Obj)}{σ:St}{H:Hp}{s s':Shared}
theorem Inv.env0(I:Inv X pins σ H s):wg X.prog X.w X.K X.mg X.base X.A X.stack s H:=
 ⟨I.ok.frames,I.ok.mod,I.bs,EX I.ok.bsz I.sz,I.stack,I.stkFree,I.hok,I.bare⟩
theorem Inv.after{Q:VK}{u:Value}(I:Inv X pins σ H s)(h:CE X.stack X.prog X.w H s Q u s'):EP X pins σ Q u s':=by obtain⟨v,H',os,bare,un,hok,r,q⟩:=h;obtain⟨hh,g,d,t,os'⟩:=s';obtain rfl:os'=s.os:=os;exact⟨v,H',I.call (h':=hh) (g':=g) (d':=d) (t':=t) (ch:=[]) un hok bare (fun b z=>absurd z (by simp)),r,q⟩
end
def sW(sp:Sp)(dvs:List V)(E:XK)(t:TA):TE:=fun σ H Q=>t σ H fun vs H1=>sp (vs++dvs) H1 Q E
def Binds(K:Frag)(fd:FuncData)(ps:List Str)(ds:List Value):Prop:=
 ∀(s:Shared)(us:List Value),K.In s.heap->(us++ds).length=ps.length->BindsTo s fd ⟨us,[]⟩ (ps.zip (us++ds))
theorem Binds.all{K:Frag}{fd:FuncData}{ps:List Str}(h:∀us:List Value,us.length=ps.length->bindArgs fd ⟨us,[]⟩=pure (ps.zip us)):Binds K fd ps []:=fun s us _ hl=>by rw[E2]at hl ⊢;exact .of_eq (h us hl)
def Passes(CX:CXT)(X:Cx)(E:XK):Prop:=∀(pins:List (Addr×Obj))(σ:St)(H:Hp)(s:Shared)(e:Value)(s':Shared),Inv X pins σ H s->CX X.stack H s E e s'->X.xe e s'
section
variable{X:Cx}{CX:CXT}{k:Nat}{f C:Addr}{fd:FuncData}{ps:List Str}{sp:Sp}{dvs:List V}{ds:List Value}{E:XK}{x m:Str}{p pos apos:Pos}{e o:Expr}{es:List Expr}{ta:TE}{t:TA}
theorem yL{pins:List (Addr×Obj)}{σ:St}{H:Hp}{s:Shared}{Q:VK}{us:List Value}{vs:List V}(F:lV X.prog X.w X.K X.mg X.base CX k f fd ps sp)(hr:eA k X.A)(hb:Binds X.K fd ps ds)(hd:Vals dvs ds)(hx:Passes CX X E)
  (I:Inv X pins σ H s) (r:Vals vs us) (h:sp (vs++dvs) H Q E):wpAny (model X.prog X.w) X.A (call (.ref f) us) (EP X pins σ Q) X.xe s:=by
 have r2:Vals (vs++dvs) (us++ds):=r.append hd;have hl:(us++ds).length=ps.length:=by rw[<-r2.length];exact F.len _ _ _ _ h
 refine wpAny_call (codeAny_mono (F.run X.A X.stack s H ⟨us,[]⟩ (us++ds) (vs++dvs) Q E hr I.env0 (hb s us I.kIn hl) r2 h) fun r s' hq=>?_);cases r with
 |error e=>exact hx pins σ H s e s' I hq
 |ok fl=>
  cases fl with
  |ret u=>exact I.after hq
  |next=>exact False.elim hq
  |brk=>exact False.elim hq
  |cont=>exact False.elim hq
theorem wK(F:lV X.prog X.w X.K X.mg X.base CX k f fd ps sp)(hr:eA k X.A)(hg:Gl X x)(hm:X.mg x=some (.ref f))(hk:keepIn X.K (.ref f)=true)(hb:Binds X.K fd ps ds)(hd:Vals dvs ds)(hx:Passes CX X E)
  (ha:PA X (e::es) t) (hdb:(x==("__debug__":Str))=false:=by decide) (he:starEach (e::es) X.env=(false,eval e X.env)::starEach es X.env:=by rfl) (hpl:(backTo pos (starEach es X.env)).any (·.1)=false:=by rfl):
  PE X (.Call (.Name x p) (e::es) [] pos) (sW sp dvs E t):=by
 intro pins s σ H Q I h;refine F9 (kZ I hg hm ?_ hdb);refine PySem.W.callWith_K (h₀:=X.base) I.ok.mod.kin hk (thn (ha pos pins s σ H _ I h) fun us s1 hPz=>L2.ep3 hPz fun vs H1 I1 r q=>⟨I1.kIn,?_⟩) he hpl;exact yL F hr hb hd hx I1 r q
end
structure ay(N P:List Str)(sc:Scope):Prop where
 kind:sc.kind=.function
 co:sc.isCoroutine=false
 gen:sc.isGenerator=false
 nd:N.Nodup
 pre:N.take P.length=P
 par:∀x∈P,sc.names.lookup x=some .local\/sc.names.lookup x=some .cell
 nofree:∀y∈sc.names,y.2≠ .free
theorem qk{kindOf:Str->Option NameKind}{x:Str}:∀{binds:List (Str×Value)}{m:Str->Option Value},(∀v,(x,v)∉binds)->bindL kindOf binds m x=m x
 | [],_,_=>rfl
 |(n,v)::r,m,h=>by
  unfold bindL;rw[qk fun w hw=>h w (EZ _ hw)];split
  ·have:x≠n:=(by rintro rfl;exact h v Fg);simp[this]
  ·rfl
theorem qm{kindOf:Str->Option NameKind}{x:Str}:∀{binds:List (Str×Value)}{m:Str->Option Value},(∀v,(x,v)∉binds)->bindC kindOf binds m x=m x
 | [],_,_=>rfl
 |(n,v)::r,m,h=>by
  unfold bindC;rw[qm fun w hw=>h w (EZ _ hw)];split
  ·rfl
  ·have:x≠n:=(by rintro rfl;exact h v Fg);simp[this]
theorem ql{kindOf:Str->Option NameKind}{x:Str}{v:Value}:∀{P:List Str}{vs:List Value}{i:Nat}{m:Str->Option Value},P.Nodup->P[i]?=some x->vs[i]?=some v->kindOf x=some .local->
  bindL kindOf (P.zip vs) m x=some v
 | [],_,_,_,_,h,_,_=>by simp at h
 |_::_,[],_,_,_,_,h,_=>by simp at h
 |p::P,w::vs,0,m,nd,h1,h2,hk=>by simp at h1 h2;subst h1;subst h2;show bindL kindOf ((p,w)::P.zip vs) m p=_;unfold bindL;rw[qk fun v hv=>(List.nodup_cons.mp nd).1 (List.of_mem_zip hv).1,Fl hk];simp
 |p::P,w::vs,i+1,m,nd,h1,h2,hk=>by show bindL kindOf ((p,w)::P.zip vs) m x=_;unfold bindL;exact ql (i:=i) (List.nodup_cons.mp nd).2 (by simpa using h1) (by simpa using h2) hk
theorem qo{kindOf:Str->Option NameKind}{x:Str}{v:Value}:∀{P:List Str}{vs:List Value}{i:Nat}{m:Str->Option Value},P.Nodup->P[i]?=some x->vs[i]?=some v->kindOf x≠some .local->
  bindC kindOf (P.zip vs) m x=some v
 | [],_,_,_,_,h,_,_=>by simp at h
 |_::_,[],_,_,_,_,h,_=>by simp at h
 |p::P,w::vs,0,m,nd,h1,h2,hk=>by simp at h1 h2;subst h1;subst h2;show bindC kindOf ((p,w)::P.zip vs) m p=_;unfold bindC;rw[qm fun v hv=>(List.nodup_cons.mp nd).1 (List.of_mem_zip hv).1,Fb hk];simp
 |p::P,w::vs,i+1,m,nd,h1,h2,hk=>by show bindC kindOf ((p,w)::P.zip vs) m x=_;unfold bindC;exact qo (i:=i) (List.nodup_cons.mp nd).2 (by simpa using h1) (by simpa using h2) hk
noncomputable def start(N:List Str)(vs:List V):St:=vs.map some++List.replicate (N.length-vs.length) none
noncomputable def iz(CX:CXT)(P:Program)(w:World)(K:Frag)(mg:Str->Option Value)(base:Heap)(N:List Str)(qual:Str)(scope:Scope)(f:Addr)(cd:Value)(A:Around)(outer:List Env)(s:Shared)(H:Hp)(E:XK):Cx where
 prog:=P
 w:=w
 K:=K
 mg:=mg
 base:=base
 A:=A.deeper (envOfC qual scope s.heap.objs.size f cd)
 N:=N
 s₀:=s
 H₀:=H
 env:=envOfC qual scope s.heap.objs.size f cd
 outer:=outer
 stack:=envOfC qual scope s.heap.objs.size f cd::outer
 ex:=[]
 calm:=true
 fn:=fun _=>true
 pn:=[]
 xe:=fun e s'=>wpAny (model P w) (A.deeper (envOfC qual scope s.heap.objs.size f cd)) (leaving (envOfC qual scope s.heap.objs.size f cd) e) (fun _ s''=>CX outer H s E e s'') (fun e' s''=>CX outer H s E e' s'') s'
theorem uK{sc:Scope}{n:Nat}{x:Str}(h:sc.names.lookup x=some .cell):∃c,(cellsFrom n sc.names []).lookup x=some c:=by have q:=PySem.W.cellsFrom_some sc.names n [] (.inl h);exact Option.isSome_iff_exists.mp q
theorem yf{CX:CXT}{P:Program}{w:World}{K:Frag}{mg:Str->Option Value}{base:Heap}{N ps:List Str}{qual:Str}{scope:Scope}{f:Addr}{cd:Value}{A:Around}{outer:List Env}{s s1:Shared}{H:Hp}{E:XK}{us:List Value}{vs:List V}
  (S:ay N ps scope) (hd:A.handled=none) (e0:wg P w K mg base A outer s H) (hl:vs.length=ps.length) (r:Vals vs us)
  (x:InCallC s s.heap.objs.size (bindL (envOfC qual scope s.heap.objs.size f cd).kindOf (ps.zip us) fun _=>none) (cellsFrom (s.heap.objs.size+1) scope.names []) (bindC (envOfC qual scope s.heap.objs.size f cd).kindOf (ps.zip us) fun _=>none) s1):
  Inv (iz CX P w K mg base N qual scope f cd A outer s H E) [] (start N vs) H s1:=by
 have hpl:ps.length<=N.length:=by have:=congrArg List.length S.pre;rw[E9]at this;omega
 obtain⟨h1,tk,rfl,hk⟩:=x.done;have noA:∀b:Addr,b∉(iz CX P w K mg base N qual scope f cd A outer s H E).ex:=fun b z=>absurd (show b∈([]:List Addr)from z) (by simp)
 refine⟨⟨e0.mod,S.kind,rfl,rfl,EG _,fun y z c h1 h2=>?_,fun y hy=>?_,fun y c _ h=>?_,fun _=>hd,Around.frames_deeper e0.frames,.inr ⟨rfl,rfl⟩,fun b z=>absurd z (noA b),e0.bs,e0.bsz,fun b _ _=>noA b,fun b z=>absurd z (noA b),e0.funs,e0.frf⟩,
  rfl,e0.bare,Un.kept hk,⟨_,x.toInCall.ns,fun i y v h1 h2 h3=>?_⟩,fun y c h=>⟨_,x.cell y c h⟩,e0.hok.fresh (EG _),fun y c h=>?_,fun p hp=>absurd (show p∈([]:List (Addr×Obj))from hp) (by simp),e0.hok.kept hk,?_⟩
 ·exact name_of_addr x.apart (FR h1) (FR h2)
 ·have hy:scope.names.lookup y=some .cell\/scope.names.lookup y=some .free:=hy;rcases hy with hy|hy
  ·exact uK hy
  ·exact absurd rfl (S.nofree _ (FR hy))
 ·exact FL (x.above y c (FR h))
 ·have hi:i<vs.length:=by
   unfold start at h2;by_cases hi:i<vs.length
   ·exact hi
   ·rw[FU (by simpa using hi)]at h2;rw[List.getElem?_replicate]at h2;split at h2<;>cases h2
  have ha:vs[i]?=some v:=by
   unfold start at h2;rw[List.getElem?_append_left (by simpa using hi),E8]at h2;cases e:vs[i]? with
   |none=>rw[e]at h2;cases h2
   |some a=>rw[e]at h2;cases h2;rfl
  obtain⟨u,hu,rv⟩:=r.get ha;have hp:ps[i]?=some y:=by rw[<-S.pre,List.getElem?_take_of_lt (by omega)];exact h1
  have ndP:ps.Nodup:=by rw[<-S.pre];exact S.nd.sublist (List.take_sublist _ _)
  refine⟨u,rv,?_⟩;rcases S.par y (EY hp)with k|k
  ·exact .inl ⟨k,ql ndP hp hu k⟩
  ·obtain⟨c,e⟩:=uK (n:=s.heap.objs.size+1) k;refine .inr ⟨.inl k,c,e,?_⟩;have q:=x.cell y c e;rw[qo ndP hp hu (by show scope.names.lookup y≠_;rw[k];decide)]at q;exact q
 ·exact e0.hok.fresh (FL (x.above y c (FR h)))
 ·unfold start;show _=N.length;rw[EC,Ew,List.length_replicate];omega
theorem zK{CX:CXT}{P:Program}{w:World}{K:Frag}{mg:Str->Option Value}{base:Heap}{k:Nat}{f:Addr}{name qual:Str}{params:Arguments}{body:List Stmt}{scope:Scope}{dV kV doc pm cdv ct oc:Value}{an od:Option Addr}
  {osl:Array (Option Value)} {N ps:List Str} {sp:Sp} (lk:K.lookup f=some ⟨oc,od,.func (fnOf name qual params body scope dV kV doc pm an cdv ct),osl⟩) (hcd:codeIn K cdv qual=true) (S:ay N ps scope)
  (len:∀vs H Q E,sp vs H Q E->vs.length=ps.length)
  (hbody:∀(A:Around)(outer:List Env)(s:Shared)(H:Hp)(vs:List V)(Q:VK)(E:XK),eA k (A.deeper (envOfC qual scope s.heap.objs.size f cdv))->sp vs H Q E->
   ∃t,PSs (iz CX P w K mg base N qual scope f cdv A outer s H E) body t/\t {nx:=fun _ H'=>Q .non H',rt:=Q} (start N vs) H):
  lV P w K mg base CX (k+1) f (fnOf name qual params body scope dV kV doc pm an cdv ct) ps sp:=by
 refine⟨len,fun A outer s H args us vs Q E hr e0 hb r hsp=>?_⟩;have hl:=len _ _ _ _ hsp;have KX:K.In s.heap:=e0.mod.kin.keeps fun b o e=>(e0.bs b o e).1;have lim:s.heap.NoLimit:=e0.mod.nolimit.keeps fun b o e=>(e0.bs b o e).1;have hkind:∀y∈ps.zip us,scope.names.lookup y.1=some .local\/(scope.names.lookup y.1=some .cell/\((cellsFrom (s.heap.objs.size+1) scope.names []).lookup y.1).isSome=true):=fun⟨n,v⟩ hy=>by
  rcases S.par n (List.of_mem_zip hy).1 with q|q
  ·exact .inl q
  ·exact .inr ⟨q,PySem.W.cellsFrom_some _ _ _ (.inl q)⟩
 refine codeAny_call_function hr.depth (KX _ _ lk) rfl S.co S.gen rfl (PySem.W.codeRec_of KX hcd) (hb _ _ _ _ ?_);refine wpAny_newFunctionEnv_cells S.kind hkind fun env he s1 x=>?_;subst he;refine⟨lim.keeps x.toInCall.keep,codeAny_func ?_⟩;obtain⟨t,ht,hq⟩:=hbody A outer s H vs Q E (hr.deeper _) hsp;have I:Inv (iz CX P w K mg base N qual scope f cdv A outer s H E) [] (start N vs) H s1:=yf S hr.hd e0 hl r x;refine E6 (ht [] s1 (start N vs) H _ I hq) (fun fl s' hs=>?_) fun e s' hs=>hs;have fin:∀{σ':St}{H':Hp}{v:V}{u:Value},Inv (iz CX P w K mg base N qual scope f cdv A outer s H E) [] σ' H' s'->RelV v u->Q v H'->CE outer P w H s Q u s':=
  fun {σ' H' v u} J rv q=>⟨v,H',J.os,J.bare,J.base,J.hok,rv,q⟩
 cases fl with
 |ret u=>obtain⟨v,σ',H',J,rv,q⟩:=hs;exact fin J rv q
 |next=>obtain⟨σ',H',J,q⟩:=hs;exact fin (v:=V.non) (u:=Value.none) J rfl q
 |brk=>obtain⟨_,_,_,q⟩:=hs;exact False.elim q
 |cont=>obtain⟨_,_,_,q⟩:=hs;exact False.elim q
section
variable{X:Cx}{x:Str}{p pos:Pos}{e:Expr}{es:List Expr}{t:TA}{id T:String}{r:List V->Hp->VK->Prop}
def tCB(r:List V->Hp->VK->Prop)(t:TA):TE:=fun σ H Q=>t σ H fun vs H1=>r vs H1 Q
theorem aP(hc:fG X (.builtin id) r)(hg:Gl X x)(hm:X.mg x=none)(hv:bootBuiltins x=some (.builtin id))(ha:PA X (e::es) t)(hn:x≠"__name__":=by decide)(hdb:(x==("__debug__":Str))=false:=by decide)
  (he:starEach (e::es) X.env=(false,eval e X.env)::starEach es X.env:=by rfl) (hpl:(backTo pos (starEach es X.env)).any (·.1)=false:=by rfl):PE X (.Call (.Name x p) (e::es) [] pos) (tCB r t):=by
 intro pins s σ H Q I h;refine F9 (j8 I hg hm hv ?_ hn hdb);exact PyProof.Rows.callWith_builtin1 (thn (ha pos pins s σ H _ I h) fun us s1 hPz=>L2.ep3 hPz fun vs H1 I1 r1 q1=>hc pins s1 σ H1 vs us Q I1 r1 q1) he hpl
theorem cJ(hc:fG X (.type T) r)(hg:Gl X x)(hm:X.mg x=none)(hv:bootBuiltins x=some (.type T))(ha:PA X (e::es) t)(hn:x≠"__name__":=by decide)(hdb:(x==("__debug__":Str))=false:=by decide)
  (he:starEach (e::es) X.env=(false,eval e X.env)::starEach es X.env:=by rfl) (hpl:(backTo pos (starEach es X.env)).any (·.1)=false:=by rfl):PE X (.Call (.Name x p) (e::es) [] pos) (tCB r t):=by
 intro pins s σ H Q I h;refine F9 (j8 I hg hm hv ?_ hn hdb);exact Ge (thn (ha pos pins s σ H _ I h) fun us s1 hPz=>L2.ep3 hPz fun vs H1 I1 r1 q1=>hc pins s1 σ H1 vs us Q I1 r1 q1) he hpl
end
end L2
namespace HT
open PySem PyProof.Rows
section
variable{prog:Program}{w:World}{A:Around}{E:Value->Shared->Prop}{s:Shared}
theorem Bu{t b:Addr}{vs ws:List Value}{Q:Value->Shared->Prop}(ht:IsTup s.heap t vs.toArray)(hb:IsTup s.heap b ws.toArray)(hv:vs≠[])
  (h1:ws=[]->Q (.ref t) s) (h2:ws≠[]->Q (.ref s.heap.objs.size) {s with heap:=s.heap.push {cls:=.type "tuple",data:=.seq (vs++ws).toArray}})
  (hsz:vs.length+ws.length<=sizeLine):wpAny (model prog w) A (binaryOp .Add (.ref t) (.ref b)) Q E s:=by
 obtain⟨⟨cls,dd,data,sl⟩,ho,hc,n,hd⟩:=id ht;obtain⟨⟨cls2,dd2,data2,sl2⟩,ho2,hc2,n2,hd2⟩:=id hb;simp only at hc hd hc2 hd2;subst hc hd hc2 hd2;have e:vs.toArray++ws.toArray=(vs++ws).toArray:=by simp
 by_cases hw:ws=[]
 ·exact concat_meets ⟨_,ho,rfl⟩ ⟨_,ho2,rfl⟩ noFill_tuple_add seq_tuple_add PySem.F.slot_tuple_add PySem.F.entry_tuple_add (PySem.F.args_tuple_add_2 _ _)
   (tuple_addW1 t b vs.toArray ws.toArray n n2 dd dd2 sl sl2 (by simpa using hv) (by simp[hw])) ⟨ho,ho2,h1 hw⟩
 ·refine concat_meets ⟨_,ho,rfl⟩ ⟨_,ho2,rfl⟩ noFill_tuple_add seq_tuple_add PySem.F.slot_tuple_add PySem.F.entry_tuple_add (PySem.F.args_tuple_add_2 _ _)
   (tuple_addW2 t b vs.toArray ws.toArray n n2 dd dd2 sl sl2 (by simpa using hv) (by simpa using hw) (by rw[EJ,EJ];exact hsz)) ⟨ho,ho2,?_⟩
  rw[e];exact h2 hw
noncomputable def sIx(n d:Nat):Option Int->Nat
 |none=>d
 |some v=>if v<0 then(v+(n:Int)).toNat else min v.toNat n
theorem yK(n d:Nat):sIx n d none=d:=rfl
theorem Ay(n d k:Nat):sIx n d (some (k:Int))=min k n:=by show(if(k:Int)<0 then((k:Int)+(n:Int)).toNat else min (k:Int).toNat n)=min k n;rw[Fb (by omega),ET]
theorem BV(n d:Nat)(hd:d<=n)(o:Option Int):sIx n d o<=n:=by
 cases o with
 |none=>exact hd
 |some v=>
  show(if v<0 then(v+(n:Int)).toNat else min v.toNat n)<=n;by_cases hv:v<0
  ·rw[Fl hv];omega
  ·rw[Fb hv];exact Nat.min_le_right _ _
theorem xl(v:Int)(n d:Nat):(if v<0 then max (v+(n:Int)) 0 else min v (n:Int))=((sIx n d (some v):Nat):Int):=by
 show(if v<0 then max (v+(n:Int)) 0 else min v (n:Int))=(((if v<0 then(v+(n:Int)).toNat else min v.toNat n):Nat):Int);by_cases hv:v<0
 ·simp only[Fl hv];omega
 ·simp only[Fb hv];omega
theorem wa(lo hi:Option Int)(n:Nat):Builtin.Slice.sliceAdjust lo hi 1 (n:Int)=(((sIx n 0 lo:Nat):Int),((sIx n n hi:Nat):Int)):=by
 have h1:¬((1:Int)<0):=by omega
 unfold Builtin.Slice.sliceAdjust;simp only[h1,if_false];refine Prod.ext ?_ ?_
 ·cases lo with
  |none=>rfl
  |some v=>exact xl v n 0
 ·cases hi with
  |none=>rfl
  |some v=>exact xl v n n
theorem vw(i j:Nat):Builtin.Slice.slicePlaces (i:Int) (j:Int) 1=j-i:=by
 unfold Builtin.Slice.slicePlaces;have h1:(1:Int)>0:=by omega
 simp only[h1,if_true,Int.ediv_one];split<;>omega
theorem nX{v:Value}{o:Option Int}{Q:Option Int->Shared->Prop}(p:IsPart v o)(h:Q o s):wpAny (model prog w) A (Builtin.Slice.slicePartIndex v) Q E s:=by
 cases p with
 |none=>exact slicePart_none h
 |int i t=>exact slicePart_int h
theorem hU{sl:Addr}{vl vu:Value}{lo hi:Option Int}{n:Nat}{Q:Int×Int×Nat->Shared->Prop}(hs:s.heap.IsSliceOf sl vl vu .none)(pl:IsPart vl lo)(pu:IsPart vu hi)
  (h:Q (((sIx n 0 lo:Nat):Int),1,sIx n n hi-sIx n 0 lo) s):wpAny (model prog w) A (Builtin.Slice.sliceApplied (.ref sl) (pure (n:Int))) Q E s:=by
 obtain⟨os,hos,hcs,hds⟩:=id hs;unfold Builtin.Slice.sliceApplied Builtin.Slice.sliceFields;refine Eu (Eu (wpAny_field hos hds (x:=vl) rfl (Eu (wpAny_field hos hds (x:=vu) rfl (Eu (wpAny_field hos hds (x:=.none) rfl (EF ?_)))))));refine Eu (slicePart_none ?_);show wpAny _ _ (if((1:Int)==0)=true then _ else _) _ _ s;rw[Fb (by decide)];refine Eu (nX pl (Eu (nX pu (Eu (EF ?_)))));show wpAny _ _ (match Builtin.Slice.sliceAdjust lo hi 1 (n:Int)with|(lo,hi)=>pure (lo,(1:Int),Builtin.Slice.slicePlaces lo hi 1)) _ _ s;rw[wa lo hi n];show wpAny _ _ (pure (((sIx n 0 lo:Nat):Int),(1:Int),Builtin.Slice.slicePlaces ((sIx n 0 lo:Nat):Int) ((sIx n n hi:Nat):Int) 1)) _ _ s;rw[vw];exact EF h
theorem yY(xs:Array Value)(i k:Nat):((List.range k).filterMap fun(m:Nat)=>xs[((i:Int)+(m:Int)*1).toNat]?).toArray=((xs.toList.drop i).take k).toArray:=by
 have e:(fun(m:Nat)=>xs[((i:Int)+(m:Int)*1).toNat]?)=fun m=>xs[i+m]? :=by
  funext m;have:((i:Int)+(m:Int)*1).toNat=i+m:=by omega
  rw[this]
 rw[e];have:=pick_run xs i k;rw[List.filterMap_map]at this;have e2:((fun x=>xs[x]?) ∘ fun x=>i+x)=fun m=>xs[i+m]? :=rfl;rw[e2]at this;rw[this]
theorem k6{t sl:Addr}{items:Array Value}{vl vu:Value}{lo hi:Option Int}{Q:Value->Shared->Prop}(ht:IsTup s.heap t items)(hs:s.heap.IsSliceOf sl vl vu .none)(pl:IsPart vl lo)(pu:IsPart vu hi)
  (hw:¬(sIx items.size 0 lo=0/\sIx items.size items.size hi=items.size))
  (h:Q (.ref s.heap.objs.size) {s with heap:=s.heap.push {cls:=.type "tuple",data:=.seq ((items.toList.drop (sIx items.size 0 lo)).take (sIx items.size items.size hi-sIx items.size 0 lo)).toArray}})
  (hsz:items.size<=sizeLine):wpAny (model prog w) A (getItem (.ref t) (.ref sl)) Q E s:=by
 have htake:sizeOk (.seq ((items.toList.drop (sIx items.size 0 lo)).take (sIx items.size items.size hi-sIx items.size 0 lo)).toArray):=by show((items.toList.drop (sIx items.size 0 lo)).take (sIx items.size items.size hi-sIx items.size 0 lo)).toArray.size<=sizeLine;rw[EJ,E9,List.length_drop,Array.length_toList];omega
 have hj:sIx items.size items.size hi<=items.size:=BV _ _ (EG _) hi;obtain⟨os,hos,hcs,hds⟩:=id hs;have hTs:s.TypeIs (.ref sl) "slice":=⟨os,hos,hcs⟩;unfold getItem
 try with_reducible refine Gh ?_
 first|refine Eu (EF ?_)|skip
 refine Eu (wpAny_sequenceKey ht.typeIs (by decide) ?_);refine Eu (wpAny_callSpecial?_slot (name:=Str.ofString "__getitem__") ht.typeIs Fs (wpAny_call_entry Fs ht.typeIs entry_tuple_getitem ?_ (args_tuple_getitem _ _)));show wpAny _ _ (Builtin.Tuple.tupleItemsOf (.ref t)>>= _) _ _ s;refine Eu (tupleItemsOf_ ht ?_);refine Eu (wpAny_typeOf hTs ?_);rw[Fl (by decide)];refine Eu (hU hs pl pu ?_);have hno:¬((((sIx items.size 0 lo:Nat):Int)==0&&(1:Int)==1&&(sIx items.size items.size hi-sIx items.size 0 lo)==items.size)=true):=by intro q;rw[EL,EL]at q;have q1:((sIx items.size 0 lo:Nat):Int)=0:=eq_of_beq q.1.1;have q2:sIx items.size items.size hi-sIx items.size 0 lo=items.size:=eq_of_beq q.2;exact hw ⟨by omega,by omega⟩
 show wpAny _ _ (if(((sIx items.size 0 lo:Nat):Int)==0&&(1:Int)==1&&(sIx items.size items.size hi-sIx items.size 0 lo)==items.size)=true then _ else _) _ _ s;rw[Fb hno,yY]
 first
  |exact Eu (m:=Builtin.Tuple.tupleExact _) (F4 (EF ⟨_,rfl,EF h⟩) htake)
  |exact Eu (m:=Builtin.Tuple.tupleExact _) (F4 (Eu (EF (EF ⟨_,rfl,EF h⟩))) htake)
  |exact Eu (Eu (m:=Builtin.Tuple.tupleExact _) (F4 (EF (EF ⟨_,rfl,EF h⟩)) htake))
  |exact Eu (Eu (m:=Builtin.Tuple.tupleExact _) (F4 (EF ⟨_,rfl,EF h⟩) htake))
end
end HT
namespace L2
open PySem PySem.Spec PyProof.Rows
noncomputable abbrev TO:=St->Hp->(Option Int->Hp->Prop)->Prop
def PO(X:Cx)(e:Option Expr)(t:TO):Prop:=
 ∀(pins:List (Addr×Obj))(s:Shared)(σ:St)(H:Hp)(Q:Option Int->Hp->Prop),Inv X pins σ H s->t σ H Q->
  wpAny (model X.prog X.w) X.A (evalPart e X.env) (fun u s'=>∃o H',Inv X pins σ H' s'/\IsPart u o/\Q o H') X.xe s
noncomputable def Ap:TO:=fun _ H Q=>Q none H
noncomputable def CS(t:TE):TO:=fun σ H Q=>t σ H fun x H1=>∃i,x=.int i/\Q (some i) H1
theorem intsAre_of{ns:List Int}:∀{us:List Value},Vals (ns.map V.int) us->IntsAre us ns:=by
 induction ns with
 |nil=>intro us r;rw[FY]at r;cases r;exact .nil
 |cons n ns ih=>
  intro us r;rw[Fe]at r;cases r with
  |cons r1 r2=>obtain⟨t,e⟩:=r1;subst e;exact .cons n t (ih r2)
section
variable{X:Cx}{e:Expr}{te:TE}{lo hi:Option Expr}{tl th:TO}{pos p2:Pos}
theorem cQ:PO X none Ap:=by intro pins s σ H Q I h;rw[evalPart_none];exact EF ⟨none,H,I,.none,h⟩
theorem cB(h:PE X e te):PO X (some e) (CS te):=by intro pins s σ H Q I hw;rw[evalPart_some];refine thn (h pins s σ H _ I hw) fun u s1 hPz=>?_;obtain⟨x,H1,I1,r1,q1⟩:=hPz;obtain⟨i,rfl,q⟩:=q1;obtain⟨t,rfl⟩:=r1;exact⟨some i,H1,I1,.int i t,q⟩
def SlR(X:Cx)(r:V->Option Int->Option Int->Hp->VK->Prop):Prop:=
 ∀(pins:List (Addr×Obj))(s:Shared)(σ:St)(H:Hp)(x:V)(v vl vu:Value)(lo hi:Option Int)(sl:Addr)(Q:VK),Inv X pins σ H s->RelV x v->s.heap.IsSliceOf sl vl vu .none->IsPart vl lo->IsPart vu hi->r x lo hi H Q->
  ∃T id,typeLookup (.type T) "__getitem__"=pure (some (.builtin id))/\s.TypeIs v T/\wpAny (model X.prog X.w) X.A (getItem v (.ref sl)) (EP X pins σ Q) X.xe s
def tSl(r:V->Option Int->Option Int->Hp->VK->Prop)(te:TE)(tl th:TO):TE:=fun σ H Q=>te σ H fun x H1=>tl σ H1 fun l H2=>th σ H2 fun u H3=>r x l u H3 Q
theorem eG{r:V->Option Int->Option Int->Hp->VK->Prop}(hr:SlR X r)(he:PE X e te)(hl:PO X lo tl)(hu:PO X hi th):PE X (.Subscript e (.Slice lo hi none p2) pos) (tSl r te tl th):=by intro pins s σ H Q I h;refine Subscript_ (thn (he pins s σ H _ I h) fun v s1 hPz=>?_);obtain⟨x,H1,I1,r1,q1⟩:=hPz;refine wpAny_Slice (thn (hl pins s1 σ H1 _ I1 q1) fun vl s2 hPz=>L2.ep3 hPz fun l H2 I2 pl q2=>thn (hu pins s2 σ H2 _ I2 q2) fun vu s3 hPz=>?_);obtain⟨u,H3,I3,pu,q3⟩:=hPz;rw[evalPart_none];refine EF ?_;have I4:Inv X pins σ H3 {s3 with heap:=s3.heap.push {cls:=.type "slice",data:=.fields #[vl,vu,.none]}}:=I3.kept (t':=s3.toks) fun b ob q=>Ex _ q;obtain⟨T,id,hT,ht,hg⟩:=hr pins {s3 with heap:=s3.heap.push {cls:=.type "slice",data:=.fields #[vl,vu,.none]}} σ H3 x v vl vu l u s3.heap.objs.size Q I4 r1 (Heap.IsSliceOf.new ..) pl pu q3;show wpAny (model X.prog X.w) X.A (subscriptTail e (.Slice lo hi none p2) v (.ref s3.heap.objs.size)) (EP X pins σ Q) X.xe {s3 with heap:=s3.heap.push {cls:=.type "slice",data:=.fields #[vl,vu,.none]}};exact tail_any (ops:=[.ref s3.heap.objs.size,v]) ht hT hg (by with_unfolding_all rfl)
noncomputable def jq(xs:List V)(lo hi:Option Int):List V:=(xs.drop (HT.sIx xs.length 0 lo)).take (HT.sIx xs.length xs.length hi-HT.sIx xs.length 0 lo)
theorem cO(xs:List V)(lo hi:Option Int):(jq xs lo hi).length<=xs.length:=by unfold jq;rw[E9,List.length_drop];omega
def D5(K:Frag):V->Option Int->Option Int->Hp->VK->Prop:=fun x lo hi H Q=>∃a xs,x=.ref a/\SqT K H a xs/\
 ¬(HT.sIx xs.length 0 lo=0/\HT.sIx xs.length xs.length hi=xs.length)/\∀p,H p=none->Q (.ref p) (upd H p (.tup (jq xs lo hi)))
theorem yH:SlR X (D5 X.K):=by
 intro pins s σ H x v vl vu lo hi sl Q I rx hs pl pu h;obtain⟨a,xs,rfl,hx,hw,q⟩:=h;cases rx;obtain⟨its,r,ht,hz⟩:=I.tuple hx;have hlen:its.toArray.size=xs.length:=by rw[EJ];exact r.length.symm
 refine⟨"tuple",_,Fs.lookup,ht.typeIs,?_⟩;refine HT.k6 ht hs pl pu (by rw[hlen];exact hw) ?_ (by rw[hlen];exact hz);rw[hlen];refine⟨.ref s.heap.objs.size,_,I.laid (t':=s.toks) (o:=.tup (jq xs lo hi)) (fun b ob q=>Ex _ q) (EG _) ?_,rfl,q _ (I.hok.fresh (EG _))⟩;exact⟨EX (cO xs lo hi) hz,_,(r.drop (HT.sIx xs.length 0 lo)).take (HT.sIx xs.length xs.length hi-HT.sIx xs.length 0 lo),IsTup.new _ _⟩
noncomputable def De(K:Frag):R2:=fun x y H Q=>∃a b xs ys,x=.ref a/\y=.ref b/\SqT K H a xs/\SqT K H b ys/\xs≠[]/\xs.length+ys.length<=sizeLine/\
 (ys=[]->Q (.ref a) H)/\(ys≠[]->∀p,H p=none->Q (.ref p) (upd H p (.tup (xs++ys))))
theorem Vals.nil_iff{xs:List V}{us:List Value}(r:Vals xs us):us=[]<->xs=[]:=by
 cases r with
 |nil=>simp
 |cons _ _=>simp
theorem dP:OpR X (binaryOp .Add) (De X.K):=by intro pins s σ H x y v u Q I rx ry h;obtain⟨a,b,xs,ys,rfl,rfl,ha,hb,hx,hz,q1,q2⟩:=h;cases rx;cases ry;obtain⟨its,r1,p1,_⟩:=I.tuple ha;obtain⟨its2,r2,p2,_⟩:=I.tuple hb;refine HT.Bu p1 p2 (fun z=>hx (r1.nil_iff.mp z)) (fun z=>⟨.ref a,H,I,rfl,q1 (r2.nil_iff.mp z)⟩) (fun z=>?_) (by rw[<-r1.length,<-r2.length];exact hz);refine⟨.ref s.heap.objs.size,_,I.laid (t':=s.toks) (o:=.tup (xs++ys)) (fun b ob q=>Ex _ q) (EG _) ?_,rfl,q2 (fun w=>z (r2.nil_iff.mpr w)) _ (I.hok.fresh (EG _))⟩;exact⟨by rw[EC];exact hz,_,r1.append r2,IsTup.new _ _⟩
end
noncomputable def ixN(n:Nat)(i:Int):Option Nat:=if 0<=i then(if i<n then some i.toNat else none)else if-(n:Int)<=i then some (i+n).toNat else none
noncomputable def atI{α:Type}(xs:List α)(i:Int):Option α:=(ixN xs.length i).bind fun j=>xs[j]?
theorem w6{n:Nat}{i:Int}{j:Nat}(h:ixN n i=some j):seqIndex? i n=some j/\j<n/\ -(n:Int)<=i/\i<n:=by
 unfold ixN at h;by_cases h0:0<=i
 ·rw[Fl h0]at h;by_cases h1:i<n
  ·rw[Fl h1]at h;have e:i.toNat=j:=Fo h;exact⟨by rw[seqIndex_of h0 h1,e],by omega,by omega,h1⟩
  ·rw[Fb h1]at h;cases h
 ·rw[Fb h0]at h;by_cases h1: -(n:Int)<=i
  ·rw[Fl h1]at h;have e:(i+n).toNat=j:=Fo h;exact⟨by rw[seqIndex_neg (by omega) h1,e],by omega,h1,by omega⟩
  ·rw[Fb h1]at h;cases h
theorem sh{α:Type}{xs:List α}{i:Int}{v:α}(h:atI xs i=some v):∃j,seqIndex? i xs.length=some j/\xs[j]?=some v/\j<xs.length/\ -(xs.length:Int)<=i/\i<xs.length:=by
 unfold atI at h;cases e:ixN xs.length i with
 |none=>rw[e]at h;cases h
 |some j=>rw[e]at h;obtain⟨h1,h2,h3,h4⟩:=w6 e;exact⟨j,h1,h,h2,h3,h4⟩
theorem aB{α:Type}{xs:List α}{j:Nat}{v:α}(h:xs[j]?=some v):atI xs (j:Int)=some v:=by
 have hj:j<xs.length:=(ED.mp h).1;have e:ixN xs.length (j:Int)=some j:=by unfold ixN;rw[Fl (by omega),Fl (by omega)];simp
 unfold atI;rw[e];exact h
theorem Ab{α:Type}(xs:List α)(v:α):atI (xs++[v]) (-1)=some v:=by
 have hl:(xs++[v]).length=xs.length+1:=by simp
 have e:ixN (xs++[v]).length (-1)=some xs.length:=by unfold ixN;rw[hl,Fb (by decide),Fl (by omega)];congr 1;omega
 unfold atI;rw[e];show(xs++[v])[xs.length]?=some v;simp
def xp(b:Expr):Prop:=∀o i,subscripted b false o i=operate [o,i] (getItem o i)
def IxR(X:Cx)(r:R2):Prop:=
 ∀(value slice:Expr)(pins:List (Addr×Obj))(s:Shared)(σ:St)(H:Hp)(x y:V)(v u:Value)(Q:VK),Inv X pins σ H s->RelV x v->RelV y u->r x y H Q->
  subscripted slice false v u=operate [v,u] (getItem v u)->wpAny (model X.prog X.w) X.A (subscriptTail value slice v u) (EP X pins σ Q) X.xe s
def MtR(X:Cx)(id:String)(r:V->List V->Hp->VK->Prop):Prop:=
 ∀(pins:List (Addr×Obj))(s:Shared)(σ:St)(H:Hp)(x:V)(xs:List V)(v:Value)(us:List Value)(Q:VK),Inv X pins σ H s->RelV x v->Vals xs us->r x xs H Q->
  wpAny (model X.prog X.w) X.A (call (.builtin id) (v::us)) (EP X pins σ Q) X.xe s
section
variable{X:Cx}{a b:Expr}{ta tb:TE}{pos:Pos}
theorem aF{r:R2}(hr:IxR X r)(ha:PE X a ta)(hb:PE X b tb)(hs:xp b):PE X (.Subscript a b pos) (tOp r ta tb):=by intro pins s σ H Q I h;exact Subscript_ (CA ha hb I h fun v u s2 x y H2 I2 rx ry q=>hr a b pins s2 σ H2 x y v u Q I2 rx ry q (hs _ _))
noncomputable def Dc(K:Frag):R2:=fun x y H Q=>∃p xs i v,x=.ref p/\y=.int i/\SqL K H p xs/\atI xs i=some v/\Q v H
noncomputable def C9(K:Frag):R2:=fun x y H Q=>∃p xs i v,x=.ref p/\y=.int i/\SqT K H p xs/\atI xs i=some v/\Q v H
noncomputable def Eb:R2:=fun x y H Q=>∃z i c,x=.str z/\y=.int i/\z.length<=sizeLine/\atI z.cps.toList i=some c/\Q (.str ⟨#[c]⟩) H
theorem bH:IxR X (Dc X.K):=by
 intro value slice pins s σ H x y v u Q I rx ry h hs;obtain⟨p,xs,i,z,rfl,rfl,hq,he,q⟩:=h;cases rx;obtain⟨t,rfl⟩:=ry;obtain⟨its,r,pl,hz⟩:=I.list hq;obtain⟨j,h1,h2,h3,h4,h5⟩:=sh he;obtain⟨w,ew,rw'⟩:=r.get h2;have hl:=r.length;have hn:=mw;have fin:EP X pins σ Q w s:=⟨z,H,I,rw',q⟩;by_cases h0:0<=i
 ·have hj:i.toNat=j:=by
   rw[seqIndex_of h0 h5]at h1;exact Fo h1
  exact item_listR pl.isList h0 (by omega) (by rw[hj];simpa using ew) fin hs
 ·have hj:(i+(its.toArray.size:Int)).toNat=j:=by
   rw[seqIndex_neg (by omega) h4]at h1;rw[EJ,<-hl];exact Fo h1
  exact subscriptTail_builtinR (x:=w) pl.isList.typeIs slot_list_getitem.lookup
   (wpAny_getItem_list_neg (Q:=fun r s'=>r=w/\EP X pins σ Q r s') pl.isList (by omega) (by rw[EJ]<;>omega) (by omega) (by rw[hj];simpa using ew) ⟨rfl,fin⟩) hs
theorem aG:IxR X (C9 X.K):=by
 intro value slice pins s σ H x y v u Q I rx ry h hs;obtain⟨p,xs,i,z,rfl,rfl,hq,he,q⟩:=h;cases rx;obtain⟨t,rfl⟩:=ry;obtain⟨its,r,pl,hz⟩:=I.tuple hq;obtain⟨j,h1,h2,h3,h4,h5⟩:=sh he;obtain⟨w,ew,rw'⟩:=r.get h2;have hl:=r.length;have hn:=mw;have fin:EP X pins σ Q w s:=⟨z,H,I,rw',q⟩;exact subscriptTail_builtinR (x:=w) pl.typeIs slot_tuple_getitem.lookup
  (getItem_tuple (j:=j) (Q:=fun r s'=>r=w/\EP X pins σ Q r s') pl (by omega) (by omega) (by rw[EJ,<-hl];exact h1) (by simpa using ew) ⟨rfl,fin⟩) hs
theorem rL:IxR X Eb:=by
 intro value slice pins s σ H x y v u Q I rx ry h hs;obtain⟨z,i,c,rfl,rfl,hz,he,q⟩:=h;obtain⟨t,rfl⟩:=rx;obtain⟨t',rfl⟩:=ry;obtain⟨j,h1,h2,h3,h4,h5⟩:=sh he;have hl:z.cps.toList.length=z.length:=by simp[Str.length]
 rw[hl]at h1 h4 h5;have hn:=mw
 exact tail_any (typeIs_str s z t) slot_str_getitem.lookup (getItem_str (c:=c) (by
  have e1:decide (i< -(2^63:Int))=false:=EI (by omega);have e2:decide (i>=2^63)=false:=EI (by omega)
  rw[e1,e2,Bool.or_false]) (by rw[h1];simpa using h2) ⟨.str ⟨#[c]⟩,H,I.tok _,⟨_,rfl⟩,q⟩) hs
theorem vL(its:List Value)(n j:Nat)(u:Value):Obj.mapSeq (·.setIfInBounds j u) {cls:=.type "list",data:=.seq its.toArray n}={cls:=.type "list",data:=.seq (its.set j u).toArray n}:=by simp[Obj.mapSeq]
theorem Inv.lst{pins:List (Addr×Obj)}{σ:St}{H:Hp}{s:Shared}{p:Addr}{xs:List V}(I:Inv X pins σ H s)(h:H p=some (.lst xs)):
  ∃(its:List Value)(n:Nat),Vals xs its/\s.heap.get? p=some {cls:=.type "list",data:=.seq its.toArray n}/\xs.length<=sizeLine:=by
 obtain⟨z,its,n,r,e⟩:=I.hok p _ h;exact⟨its,n,r,e,z⟩
theorem Inv.lstUpd{pins:List (Addr×Obj)}{σ:St}{H:Hp}{s:Shared}{p:Addr}{xs ys:List V}{its its':List Value}{n n':Nat}{f:Obj->Obj}(I:Inv X pins σ H s)(h:H p=some (.lst xs))
  (ho:s.heap.get? p=some {cls:=.type "list",data:=.seq its.toArray n}) (hf:f {cls:=.type "list",data:=.seq its.toArray n}={cls:=.type "list",data:=.seq its'.toArray n'}) (r:Vals ys its') (hz:ys.length<=sizeLine) (t:Nat):
  Inv X pins σ (upd H p (.lst ys)) {s with heap:=s.heap.update p f,toks:=t}:=by
 have e:(s.heap.update p f).get? p=some {cls:=.type "list",data:=.seq its'.toArray n'}:=by rw[FZ f ho (by rw[hf]<;>rfl),hf]
 refine I.write (x:=p) (e:=p) (by rw[h];trivial) (.inl rfl) (fun b u hb q=>(FT _ _ (Gj hb)).trans q) ⟨_,e⟩ ?_;exact⟨hz,its',n',r,e⟩
def C8:V->V->V->Hp->(Hp->Prop)->Prop:=fun o i v H Q=>∃p xs k j,o=.ref p/\i=.int k/\H p=some (.lst xs)/\ixN xs.length k=some j/\Q (upd H p (.lst (xs.set j v)))
theorem set_list:DL X C8:=by
 intro pins s σ H o i v ov iv u Q I ro ri rv h;obtain⟨p,xs,k,j,rfl,rfl,hp,hj,q⟩:=h;cases ro;obtain⟨t,rfl⟩:=ri;obtain⟨its,n,r,ho,hz⟩:=I.lst hp;obtain⟨h1,h2,h3,h4⟩:=w6 hj;have hl:=r.length;have hn:=mw;have I':Inv X pins σ (upd H p (.lst (xs.set j v))) {s with heap:=s.heap.update p (Obj.mapSeq (·.setIfInBounds j u))}:=
  I.lstUpd hp ho (vL its n j u) (r.set rv j) (by rw[List.length_set];exact hz) s.toks
 by_cases h0:0<=k
 ·have hk:k.toNat=j:=by
   rw[seqIndex_of h0 h4]at h1;exact Fo h1
  exact PySem.W.ki_setAt ho h0 (by omega) (by rw[EJ,<-hl];exact h4) (by rw[hk];exact⟨_,I',q⟩)
 ·have hk:(k+(its.toArray.size:Int)).toNat=j:=by
   rw[seqIndex_neg (by omega) h3]at h1;rw[EJ,<-hl];exact Fo h1
  exact PySem.W.ki_setBack ho (by omega) (by rw[EJ,<-hl];exact h3) (by omega) (by rw[hk];exact⟨_,I',q⟩)
theorem qA(lo hi:Option Int)(n:Nat):(sliceBounds lo hi none n).1=((HT.sIx n 0 lo:Nat):Int)/\(sliceBounds lo hi none n).2.1=((HT.sIx n n hi:Nat):Int)/\(sliceBounds lo hi none n).2.2=1:=by
 refine⟨?_,?_,rfl⟩
 ·cases lo with
  |none=>simp[sliceBounds,HT.sIx]
  |some i=>
   simp only[sliceBounds,HT.sIx,Option.getD_none,show(1:Int)>0 by decide,if_true];by_cases h:i<0
   ·simp only[h,if_true]<;>omega
   ·simp only[h,if_false]<;>omega
 ·cases hi with
  |none=>simp[sliceBounds,HT.sIx]
  |some i=>
   simp only[sliceBounds,HT.sIx,Option.getD_none,show(1:Int)>0 by decide,if_true];by_cases h:i<0
   ·simp only[h,if_true]<;>omega
   ·simp only[h,if_false]<;>omega
theorem pz(its:List Value)(lo hi:Option Int):slicePick its.toArray lo hi none=((its.drop (HT.sIx its.length 0 lo)).take (HT.sIx its.length its.length hi-HT.sIx its.length 0 lo)).toArray:=by obtain⟨h1,h2,h3⟩:=qA lo hi its.toArray.size;unfold slicePick;rw[h1,h2,h3];simp only[sliceRange_one,pick_run,EJ]<;>rfl
def D7(K:Frag):V->Option Int->Option Int->Hp->VK->Prop:=fun x lo hi H Q=>∃a xs,x=.ref a/\SqL K H a xs/\∀p,H p=none->Q (.ref p) (upd H p (.lst (jq xs lo hi)))
theorem As:SlR X (D7 X.K):=by intro pins s σ H x v vl vu lo hi sl Q I rx hs pl pu h;obtain⟨a,xs,rfl,hx,q⟩:=h;cases rx;obtain⟨its,r,ht,hz⟩:=I.list hx;have hlen:=r.length;refine⟨"list",_,slot_list_getitem.lookup,ht.isList.typeIs,?_⟩;refine wpAny_getItem_list_slice ht.isList hs pl pu .none (by simp) ?_ (by rw[EJ]<;>omega);rw[pz,<-hlen];refine⟨.ref s.heap.objs.size,_,I.laid (t':=s.toks) (o:=.lst (jq xs lo hi)) (fun b ob q=>Ex _ q) (EG _) ?_,rfl,q _ (I.hok.fresh (EG _))⟩;exact⟨EX (cO xs lo hi) hz,_,0,(r.drop (HT.sIx xs.length 0 lo)).take (HT.sIx xs.length xs.length hi-HT.sIx xs.length 0 lo),Fh _ rfl⟩
noncomputable def k8:V->Bool
 | .non=>true
 | .bl _=>true
 | .int _=>true
 | .str _=>true
 |_=>false
noncomputable def eqV:V->V->Bool
 | .non,.non=>true
 | .bl a,.bl b=>a==b
 | .bl a,.int b=>(if a then 1 else 0)==b
 | .int a,.bl b=>a==(if b then 1 else 0)
 | .int a,.int b=>a==b
 | .str a,.str b=>a==b
 |_,_=>false
theorem Cv{A:Around}{s:Shared}{y x:V}{u v:Value}(ry:RelV y u)(rx:RelV x v)(fy:k8 y=true)(fx:k8 x=true):SeqAt.EqAt A s u v (eqV y x):=by
 cases y with
 |non=>
  cases ry;cases x with
  |non=>cases rx;exact SeqAt.EqAt.same _
  |bl b=>cases rx;exact SeqAt.EqAt.none_bool b
  |int b=>obtain⟨t,rfl⟩:=rx;exact SeqAt.EqAt.none_int b t
  |str b=>obtain⟨t,rfl⟩:=rx;exact SeqAt.EqAt.none_str b t
  |_=>exact absurd (show false=true from fx) EE
 |bl a=>
  cases ry;cases x with
  |non=>cases rx;exact SeqAt.EqAt.bool_none a
  |bl b=>cases rx;exact SeqAt.EqAt.bool_bool a b
  |int b=>obtain⟨t,rfl⟩:=rx;exact SeqAt.EqAt.bool_int a b t
  |str b=>obtain⟨t,rfl⟩:=rx;exact SeqAt.EqAt.bool_str a b t
  |_=>exact absurd (show false=true from fx) EE
 |int a=>
  obtain⟨t',rfl⟩:=ry;cases x with
  |non=>cases rx;exact SeqAt.EqAt.int_none a t'
  |bl b=>cases rx;exact SeqAt.EqAt.int_bool a t' b
  |int b=>obtain⟨t,rfl⟩:=rx;exact SeqAt.EqAt.int_int a t' b t
  |str b=>obtain⟨t,rfl⟩:=rx;exact SeqAt.EqAt.int_str a t' b t
  |_=>exact absurd (show false=true from fx) EE
 |str a=>
  obtain⟨t',rfl⟩:=ry;cases x with
  |non=>cases rx;exact SeqAt.EqAt.str_none a t'
  |bl b=>cases rx;exact SeqAt.EqAt.str_bool a t' b
  |int b=>obtain⟨t,rfl⟩:=rx;exact SeqAt.EqAt.str_int a t' b t
  |str b=>obtain⟨t,rfl⟩:=rx;exact SeqAt.EqAt.str_str a t' b t
  |_=>exact absurd (show false=true from fx) EE
 |_=>exact absurd (show false=true from fy) EE
noncomputable def eqU(x:V)(u:Value):Bool:=match u with
 | .none=>eqV .non x
 | .bool b=>eqV (.bl b) x
 | .int i _=>eqV (.int i) x
 | .str z _=>eqV (.str z) x
 |_=>false
theorem zL{x y:V}{u:Value}(r:RelV y u)(f:k8 y=true):eqU x u=eqV y x:=by
 cases y with
 |non=>cases r;rfl
 |bl b=>cases r;rfl
 |int i=>obtain⟨t,rfl⟩:=r;rfl
 |str z=>obtain⟨t,rfl⟩:=r;rfl
 |_=>exact absurd (show false=true from f) EE
theorem si{x:V}:∀{xs:List V}{us:List Value},Vals xs us->xs.all k8=true->us.any (eqU x)=xs.any fun y=>eqV y x
 |_,_,.nil,_=>rfl
 |y::xs,u::us,.cons r t,f=>by rw[List.all_cons,EL]at f;rw[List.any_cons,List.any_cons,zL r f.1,si t f.2]
theorem oS{A:Around}{s:Shared}{x:V}{v:Value}(rx:RelV x v)(fx:k8 x=true):∀{xs:List V}{us:List Value},Vals xs us->xs.all k8=true->∀u∈us,SeqAt.EqAt A s u v (eqU x u)
 |_,_,.nil,_=>fun u hu=>by cases hu
 |y::xs,u::us,.cons r t,f=>fun u' hu=>by
  rw[List.all_cons,EL]at f;rcases Fd.mp hu with rfl|hu
  ·rw[zL r f.1];exact Cv r rx f.1 fx
  ·exact oS rx fx t f.2 u' hu
noncomputable def inV(x:V)(xs:List V):Bool:=xs.any fun y=>eqV y x
noncomputable def rIn(K:Frag)(neg:Bool):R2:=fun x y H Q=>∃p xs,y=.ref p/\(SqL K H p xs\/SqT K H p xs)/\k8 x=true/\xs.all k8=true/\Q (.bl (if neg then !inV x xs else inV x xs)) H
theorem hZ:OpR X (compareOp .In) (rIn X.K false):=by
 intro pins s σ H x y v u Q I rx ry h;obtain⟨p,xs,rfl,hq,fx,fs,q⟩:=h;cases ry;rcases hq with hq|hq
 ·obtain⟨its,r,pl,hz⟩:=I.list hq;refine SeqAt.in_listAt (eqU x) pl.isList (fun w hw=>oS rx fx r fs w (by simpa using hw)) ⟨.bl _,H,I,rfl,?_⟩;rw[show its.toArray.any (eqU x)=its.any (eqU x) by simp,si r fs];exact q
 ·obtain⟨its,r,pl,hz⟩:=I.tuple hq;refine SeqAt.in_tupleAt (eqU x) pl (fun w hw=>oS rx fx r fs w (by simpa using hw)) ⟨.bl _,H,I,rfl,?_⟩;rw[show its.toArray.any (eqU x)=its.any (eqU x) by simp,si r fs];exact q
theorem br:fG X (.builtin "len") (fun xs H Q=>∃p ys,xs=[.ref p]/\(SqL X.K H p ys\/SqT X.K H p ys)/\Q (.int ys.length) H):=by
 intro pins s σ H xs us Q I r h;obtain⟨p,ys,rfl,hq,q⟩:=h;obtain⟨u,rfl,rx⟩:=vals1 r;cases rx;have hn:=mw;rcases hq with hq|hq
 ·obtain⟨its,r',pl,hz⟩:=I.list hq;have hlen:=r'.length;exact Calls.call_len_list pl.isList (by simp only[EJ]<;>omega) ⟨.int ys.length,H,I.tok _,⟨s.toks+1,by rw[EJ,hlen]⟩,q⟩
 ·obtain⟨its,r',pl,hz⟩:=I.tuple hq;have hlen:=r'.length;exact len_tuple pl (by simp only[EJ]<;>omega) ⟨.int ys.length,H,I.tok _,⟨s.toks+1,by rw[EJ,hlen]⟩,q⟩
theorem r6:fG X (.builtin "len") (fun xs H Q=>∃z,xs=[.str z]/\z.length<=sizeLine/\Q (.int z.length) H):=by intro pins s σ H xs us Q I r h;obtain⟨z,rfl,hz,q⟩:=h;obtain⟨u,rfl,t,rfl⟩:=vals1 r;have hn:=mw;exact len_str (by omega) ⟨.int z.length,H,I.tok _,⟨_,rfl⟩,q⟩
theorem iA:fG X (.type "list") (fun xs H Q=>∃p ys,xs=[.ref p]/\(SqL X.K H p ys\/SqT X.K H p ys)/\∀l,H l=none->Q (.ref l) (upd H l (.lst ys))):=by
 intro pins s σ H xs us Q I r h;obtain⟨p,ys,rfl,hq,q⟩:=h;obtain⟨u,rfl,rx⟩:=vals1 r;cases rx;have fin:∀(its:List Value),Vals ys its->ys.length<=sizeLine->∀(h':Heap)(c':Nat),(∀b o',s.heap.get? b=some o'->h'.get? b=some o')->
   h'.get? s.heap.objs.size=some {cls:=.type "list",dict:=none,data:=.seq its.toArray c',slots:= #[]}->EP X pins σ Q (.ref s.heap.objs.size) {s with heap:=h'}:=fun its r' hz h' c' kp e=>
  ⟨.ref s.heap.objs.size,_,I.laid (t':=s.toks) kp (EG _) (show cW X.prog X.w _ h' _ (.lst ys)from⟨hz,its,c',r',e⟩),rfl,q _ (I.hok.fresh (EG _))⟩
 rcases hq with hq|hq
 ·obtain⟨its,r',pl,hz⟩:=I.list hq;have hlen:=r'.length;obtain⟨o,ho,hc,n,hd⟩:=pl.isList;exact call_list_seq p (.inl rfl) ho hc hd (fun h' c' kp e=>fin its r' hz h' c' kp e) (by simp only[EJ]<;>omega)
 ·obtain⟨its,r',pl,hz⟩:=I.tuple hq;have hlen:=r'.length;obtain⟨o,ho,hc,n,hd⟩:=pl;exact call_list_seq p (.inr rfl) ho hc hd (fun h' c' kp e=>fin its r' hz h' c' kp e) (by simp only[EJ]<;>omega)
theorem fk:fG X (.type "tuple") (fun xs H Q=>∃p ys,xs=[.ref p]/\((SqL X.K H p ys/\∀l,H l=none->Q (.ref l) (upd H l (.tup ys)))\/(SqT X.K H p ys/\Q (.ref p) H))):=by
 intro pins s σ H xs us Q I r h;obtain⟨p,ys,rfl,h⟩:=h;obtain⟨u,rfl,rx⟩:=vals1 r;cases rx;rcases h with⟨hq,q⟩|⟨hq,q⟩
 ·obtain⟨its,r',pl,hz⟩:=I.list hq;have hlen:=r'.length;refine call_tuple_list pl.isList (fun h' kp=>?_) (by simp only[EJ]<;>omega);have I1:Inv X pins σ H {s with heap:=h'}:=I.kept (t':=s.toks) kp;have I2:Inv X pins σ (upd H h'.objs.size (.tup ys)) {s with heap:=h'.push {cls:=.type "tuple",data:=.seq its.toArray}}:=
   I1.laid (t':=s.toks) (fun b o e=>Ex _ e) (EG _) (show cW X.prog X.w _ _ _ (.tup ys)from⟨hz,its,r',IsTup.new _ _⟩)
  exact⟨.ref h'.objs.size,_,I2,rfl,q _ (I1.hok.fresh (EG _))⟩
 ·obtain⟨its,r',pl,hz⟩:=I.tuple hq;exact call_tuple_same pl ⟨.ref p,H,I,rfl,q⟩
def tyV(K:Frag)(T:String)(x:V)(H:Hp):Prop:=match x with
 | .str _=>T="str"
 | .int _=>T="int"
 | .ref p=>(T="list"/\∃xs,SqL K H p xs)\/(T="tuple"/\∃o,K.lookup p=some o/\o.cls=.type "tuple"/\o.dict=none)\/
  (T="dict"/\((∃kvs,H p=some (.dK kvs))\/∃kvs,H p=some (.dT kvs)))\/(T="set"/\∃S n,H p=some (.set S n))
 |_=>False
theorem yz{pins:List (Addr×Obj)}{σ:St}{H:Hp}{s:Shared}{T:String}{x:V}{v:Value}(I:Inv X pins σ H s)(r:RelV x v)(ty:tyV X.K T x H):
  s.TypeIs v T/\∀a,v=.ref a->∃ob,s.heap.get? a=some ob/\ob.dict=none:=by
 cases x with
 |str z=>obtain⟨t,rfl⟩:=r;cases (show T="str" from ty);exact⟨typeIs_str s z t,fun _ e=>nomatch e⟩
 |int i=>obtain⟨t,rfl⟩:=r;cases (show T="int" from ty);exact⟨typeIs_int s i t,fun _ e=>nomatch e⟩
 |ref p=>
  cases r;rcases ty with⟨rfl,xs,hq⟩|⟨rfl,o,hk,hc,hd⟩|⟨rfl,hk⟩|⟨rfl,S,n,hk⟩
  ·obtain⟨its,_,pl,_⟩:=I.list hq;refine⟨pl.isList.typeIs,fun a e=>?_⟩;cases e;obtain⟨o,n,e,c,hd,_⟩:=pl;exact⟨o,e,hd⟩
  ·refine⟨⟨o,I.kIn p o hk,hc⟩,fun a e=>?_⟩;cases e;exact⟨o,I.kIn _ o hk,hd⟩
  ·have z:∃o,s.heap.get? p=some o/\o.ExactDict:=by
    rcases hk with⟨kvs,hk⟩|⟨kvs,hk⟩
    ·obtain⟨_,_,_,_,o,_,_,e,ex,_⟩:=I.hok p _ hk;exact⟨o,e,ex⟩
    ·obtain⟨_,_,_,_,o,_,_,e,ex,_⟩:=I.hok p _ hk;exact⟨o,e,ex⟩
   obtain⟨o,e,ex⟩:=z;refine⟨⟨o,e,ex.1⟩,fun a e2=>?_⟩;cases e2;exact⟨o,e,ex.2.1⟩
  ·obtain⟨o,_,_,_,e,ex,_⟩:=I.hok p _ hk;refine⟨⟨o,e,ex.1⟩,fun a e2=>?_⟩;cases e2;exact⟨o,e,ex.2.1⟩
 |_=>exact False.elim ty
def D1(K:Frag)(T:String)(r:V->List V->Hp->VK->Prop)(to:TE):TE:=fun σ H Q=>to σ H fun x H1=>tyV K T x H1/\r x [] H1 Q
def tBM(K:Frag)(T:String)(r:V->List V->Hp->VK->Prop)(to:TE)(t:TA):TE:=fun σ H Q=>to σ H fun x H1=>tyV K T x H1/\t σ H1 fun xs H2=>r x xs H2 Q
variable{o e:Expr}{es:List Expr}{to:TE}{t:TA}{name:Str}{apos cpos:Pos}{T id:String}{r:V->List V->Hp->VK->Prop}
theorem vx(pa:PlainAttrs T)(slot:Slot T name id)(hty:typeOf (.builtin id)=pure (.type "method_descriptor"))(hm:MtR X id r)(ho:PE X o to)
  (hbase:attributeBase o name X.env (eval o X.env)=eval o X.env:=by rfl) (hline:(apos.endLine==cpos.line)=true:=by rfl):PE X (.Call (.Attribute o name apos) [] [] cpos) (D1 X.K T r to):=by
 intro pins s σ H Q I h;refine wpAny_Call_method0_late hbase hline (thn (ho pins s σ H _ I h) fun v s1 hPz=>?_);obtain⟨x,H1,I1,r1,ty,q1⟩:=hPz;obtain⟨h1,h2⟩:=yz I1 r1 ty;exact⟨T,id,pa,slot,hty,h1,h2,Calls.callWith_builtin rfl (PySem.evalArgs_none (hm pins s1 σ H1 x [] v [] Q I1 r1 .nil q1))⟩
theorem hX(pa:PlainAttrs T)(slot:Slot T name id)(hty:typeOf (.builtin id)=pure (.type "method_descriptor"))(hm:MtR X id r)(ho:PE X o to)(ha:PA X (e::es) t)
  (hbase:attributeBase o name X.env (eval o X.env)=eval o X.env:=by rfl)
  (hfew:((backTo cpos (starEach (e::es) X.env)).all (fun x=> !x.1)&&(backToKw cpos (keywordEach [] X.env)).all (fun x=>x.1.isSome)
   &&decide ((e::es).length+([]:List Keyword).length+(if([]:List Keyword).isEmpty then 0 else 1)<30))=true:=by rfl)
  (hline:(apos.endLine==cpos.line)=true:=by rfl) (hs:starEach (e::es) X.env=(false,eval e X.env)::starEach es X.env:=by rfl) (hplain:(backTo cpos (starEach es X.env)).any (·.1)=false:=by rfl):
  PE X (.Call (.Attribute o name apos) (e::es) [] cpos) (tBM X.K T r to t):=by
 intro pins s σ H Q I h;refine wpAny_Call_method_late hbase hfew hline rfl (thn (ho pins s σ H _ I h) fun v s1 hPz=>?_);obtain⟨x,H1,I1,r1,ty,q1⟩:=hPz;obtain⟨h1,h2⟩:=yz I1 r1 ty;refine⟨T,id,pa,slot,hty,h1,h2,?_⟩;have hA:=ha cpos pins s1 σ H1 _ I1 q1;rw[hs]at hA ⊢;refine Calls.callWith_builtin (by show(false||(backTo cpos (starEach es X.env)).any (·.1))=false;rw[hplain]<;>rfl) (Calls.evalArgs_plain ?_);exact thn hA fun us s2 hPz=>L2.ep3 hPz fun vs H2 I2 r2 q2=>hm pins s2 σ H2 x vs v us Q I2 r1 r2 q2
end
def MtM(X:Cx)(id:String)(r:V->List V->Hp->VK->Prop):Prop:=
 ∀(pins:List (Addr×Obj))(s:Shared)(σ:St)(H:Hp)(x:V)(xs:List V)(v:Value)(us:List Value)(Q:VK),Inv X pins σ H s->RelV x v->Vals xs us->r x xs H Q->
  wpAny (model X.prog X.w) X.A (call (.builtin id) (v::us)) (EP X pins σ Q) X.xe s
theorem Vals.one:∀{x:V}{us:List Value},Vals [x] us->∃u,us=[u]/\RelV x u
 |_,_,.cons r .nil=>⟨_,rfl,r⟩
theorem Vals.zero:∀{us:List Value},Vals [] us->us=[]
 |_,.nil=>rfl
theorem Vals.dropLast{xs:List V}{us:List Value}(h:Vals xs us):Vals xs.dropLast us.dropLast:=by
 induction h with
 |nil=>exact .nil
 |cons r t ih=>
  cases t with
  |nil=>exact .nil
  |cons q t'=>exact .cons r ih
theorem vU{α:Type}(l:List α):l.eraseIdx (l.length-1)=l.dropLast:=by
 induction l with
 |nil=>rfl
 |cons a r ih=>
  cases r with
  |nil=>rfl
  |cons b r=>
   have e:(a::b::r).length-1=((b::r).length-1)+1:=by have h1:(a::b::r).length=r.length+2:=rfl;have h2:(b::r).length=r.length+1:=rfl;omega
   rw[e,List.eraseIdx_cons_succ,ih]
   all_goals rfl
section
variable{X:Cx}{pins:List (Addr×Obj)}{σ:St}{H:Hp}{s:Shared}{l b:Addr}{xs ys zs:List V}
theorem Inv.lset{its its':List Value}{n:Nat}{f:Array Value->Array Value}{t':Nat}(I:Inv X pins σ H s)(hH:H l=some (.lst xs))
  (e:s.heap.get? l=some {cls:=.type "list",data:=.seq its.toArray n}) (hf:f its.toArray=its'.toArray) (hv:Vals ys its') (hz:ys.length<=sizeLine):
  Inv X pins σ (upd H l (.lst ys)) {s with heap:=s.heap.update l (Obj.mapSeq f),toks:=t'}:=by
 have q:=PySem.IsL.update e f;rw[hf]at q;refine I.write (x:=l) (e:=l) (by rw[hH];exact trivial) (.inl rfl) (fun b' u hb hu=>(FT s.heap (Obj.mapSeq f) (Gj hb)).trans hu) ⟨_,q⟩ ?_;exact⟨hz,its',_,hv,q⟩
theorem Inv.lnew{its:List Value}{t':Nat}(I:Inv X pins σ H s)(hv:Vals ys its)(hz:ys.length<=sizeLine):
  Inv X pins σ (upd H s.heap.objs.size (.lst ys)) {s with heap:=s.heap.push {cls:=.type "list",data:=.seq its.toArray},toks:=t'}:=
 I.laid (fun _ _ q=>Ex _ q) (EG _) ⟨hz,its,0,hv,Fh _ rfl⟩
theorem Inv.fresh(I:Inv X pins σ H s):H s.heap.objs.size=none:=I.hok.fresh (EG _)
theorem Inv.lstM(I:Inv X pins σ H s)(hH:H l=some (.lst xs)):xs.length<=sizeLine/\∃(its:List Value)(n:Nat),Vals xs its/\xs.length=its.length/\s.heap.get? l=some {cls:=.type "list",data:=.seq its.toArray n}:=by obtain⟨z,its,n,r,e⟩:=I.hok l _ hH;exact⟨z,its,n,r,r.length,e⟩
end
section
variable{X:Cx}
def AB:V->List V->Hp->VK->Prop:=fun x vs H Q=>∃l xs y,x=.ref l/\vs=[y]/\H l=some (.lst xs)/\xs.length<sizeLine/\Q .non (upd H l (.lst (xs++[y])))
theorem bY:MtM X "list.append" AB:=by intro pins s σ H x vs v us Q I rx rv h;obtain⟨l,xs,y,rfl,rfl,hH,hz,q⟩:=h;cases rx;obtain⟨u,rfl,ru⟩:=rv.one;obtain⟨z,its,n,r,hl,e⟩:=I.lstM hH;refine call_meets F.slot_list_append ⟨_,e,rfl⟩ F.entry_list_append (F.args_list_append_2 _ _) (PySem.list_append l its.toArray n u (by rw[EJ];omega)) ⟨e,?_⟩;refine⟨.non,_,I.lset (its':=its++[u]) hH e (by simp) (r.append (.cons ru .nil)) ?_,rfl,q⟩;rw[EC,Fq];omega
def D9:V->List V->Hp->VK->Prop:=fun x vs H Q=>∃l xs y,x=.ref l/\vs=[]/\H l=some (.lst xs)/\xs[xs.length-1]?=some y/\Q y (upd H l (.lst xs.dropLast))
theorem Cd:MtM X "list.pop" D9:=by
 intro pins s σ H x vs v us Q I rx rv h;obtain⟨l,xs,y,rfl,rfl,hH,hy,q⟩:=h;cases rx;have hus:=rv.zero;subst hus;obtain⟨z,its,n,r,hl,e⟩:=I.lstM hH;obtain⟨u,hu,ru⟩:=r.get hy;have hy':its.toArray[its.toArray.size-1]?=some u:=by show its.toArray[its.length-1]?=some u;rw[<-Array.getElem?_toList,<-hl];exact hu
 refine call_meets F.slot_list_pop ⟨_,e,rfl⟩ F.entry_list_pop (F.args_list_pop_1 _) (MeetsSeq.list_pop_last l its.toArray n u hy' (by rw[EJ];omega)) ⟨e,?_⟩;refine⟨y,_,I.lset (its':=its.dropLast) hH e ?_ r.dropLast ?_,ru,q⟩
 ·show its.toArray.eraseIdxIfInBounds (its.toArray.size-1)=its.dropLast.toArray;rw[EJ,List.eraseIdxIfInBounds_toArray,vU]
 ·rw[List.length_dropLast];omega
noncomputable def Ee:R2:=fun x y H Q=>∃l b xs zs,x=.ref l/\y=.ref b/\H l=some (.lst xs)/\H b=some (.lst zs)/\xs.length+zs.length<=sizeLine/\∀p,H p=none->Q (.ref p) (upd H p (.lst (xs++zs)))
theorem mh:OpR X (binaryOp .Add) Ee:=by
 intro pins s σ H x y v u Q I rx ry h;obtain⟨l,b,xs,zs,rfl,rfl,hH,hB,hz,q⟩:=h;cases rx;cases ry;obtain⟨z,its,n,r,hl,e⟩:=I.lstM hH;obtain⟨z2,its2,n2,r2,hl2,e2⟩:=I.lstM hB;refine PySem.P.add_list e e2 ?_ (by rw[EJ,EJ];omega);have ea:its.toArray++its2.toArray=(its++its2).toArray:=by simp
 rw[ea];exact⟨.ref _,_,I.lnew (t':=s.toks) (r.append r2) (by rw[EC];omega),rfl,q _ I.fresh⟩
end
end L2
namespace Att
open PySem PySem.W PySem.Calls PyProof.Rows
theorem ni{P:Params}{h:Heap}:∀(ns:List Int)(vs:List Value),WellAll P h vs (ns.map WData.int)->IntsAre vs ns:=by
 intro ns
 induction ns with
 |nil=>intro vs w;rw[FY]at w;cases w;exact .nil
 |cons n ns ih=>
  intro vs w;rw[Fe]at w;cases w with
  |cons a b=>cases a;exact .cons _ _ (ih _ b)
theorem xD{l:OpenLaw}{n:Nat}(hn:l.most=some n){P:Params}{h:Heap}{args:List WData}{vals:List Value}
  (hpre:l.row.toRowW.claim.pre args=true) (hwl:WellAll P h vals args):
  ∃a vs ns,vals=[Value.ref a]/\args=[WData.list (ns.map WData.int)]/\h.get? a=some {cls:=.type "list",data:=.seq vs.toArray}/\IntsAre vs ns/\ns.length<=n:=by
 have hsh:WShape.hasAll [] args [.list .int]=true:=(pre_splitW hpre).1;have hc:l.pre.holds [] {args:=args}=true:=(pre_splitW hpre).2;obtain⟨d,r,rfl,h1,h2⟩:=hasAllW_cons hsh;obtain rfl:=hasAllW_nil h2;obtain⟨xs,rfl,h3⟩:=hasW_list h1;obtain⟨ns,rfl⟩:=items_int h3;have hlen:ns.length<=n:=by
  unfold OpenLaw.pre at hc;have h4:(WTm.not (.lt (.lit (.int (n:Int))) (.len (.arg 0)))).holds [] {args:=[.list (ns.map .int)]}=true:=by have h4:=(holds_andW hc).1;rw[hn]at h4;exact h4
  have h5:=condW_of h4 (w_not (w_lt w_lit (w_len_list (w_arg rfl))));rw[Ew]at h5;refine Nat.le_of_not_lt fun q=>?_;have q':(n:Int)<((ns.length:Nat):Int):=by omega
  first
   |(rw[Ey q']at h5;exact absurd h5 (by decide))
   |(simp at h5;omega)
 cases hwl with
 |cons w1 w2=>
  cases w2;cases w1 with
  |list ho hall=>exact⟨_,_,ns,rfl,rfl,ho,ni ns _ hall,hlen⟩
theorem xO(l:OpenLaw)(args:List WData):l.row.toRowW.claim.post args (.bool true) args=true:=
 postW_of (r:=l.row.toRowW) (X:=(true==true))
  (show WShape.has [] (.bool true) .bool=true by first|rfl|decide|simp[WShape.has,WShape.arms,WShape.armsAll])
  (show(WTm.eq .res (.lit (.bool true))).value [] {args:=args,res:=some (.bool true),after:=args}=some (.bool (true==true))from w_eq_bool (w_res rfl) w_lit) rfl
theorem uP{l:OpenLaw}{n:Nat}{q:Program}{loose:List Str}{XP:(Str->Option Value)->Heap->Prop}{YP:World->Heap->Prop}{d:DefRec}
  (hn:l.most=some n) (hdf:d.params.defaults=[])
  (call:∀(w:World)(s₀ s₁:Shared)(mg mb:Str->Option Value)(fa:Addr)(o:Obj)(pm cd doc:Value)(a:Addr)(vs:List Value)(ns:List Int),
   Ground q loose [] XP w s₀ mg mb s₁.heap->YP w s₁.heap->
   s₁.heap.get? fa=some o->o.data=.func (docDef d.name d.params d.body d.scope pm cd doc)->s₁.heap.CodeRec cd d.name->mg d.name=some (.ref fa)->
   s₁.heap.get? a=some {cls:=.type "list",data:=.seq vs.toArray}->IntsAre vs ns->ns.length<=n->s₁.gens= #[]->
   codeAny (model l.prog w) callerA (.call (.ref fa) ⟨[.ref a],[]⟩) (fun r s'=>r=.ok (.ret (.bool true))/\OldK s₁.heap s'.heap/\s'.os=s₁.os/\AllBare s'.gens) s₁):
  WalkO q loose XP YP l.row.toRowW d [] (fun f vs=>PySem.call f vs):=by
 intro w s₀ s₁ mg mb G Y fa o pm cd doc dV kV ho hd hcd hD hmg hg args vals as hpre hlay hrd hwl hlo;obtain rfl:dV=.none:=Dflts.none hD hdf;obtain rfl:kV=.none:=Dflts.noKw hD;obtain⟨a,vs,ns,rfl,rfl,hobj,hints,hlen⟩:=xD hn hpre hwl;refine enter_call (codeAny_mono (call w s₀ s₁ mg mb fa o pm cd doc a vs ns G Y ho (fd_plain hd) hcd hmg hobj hints hlen hg) fun r s' hq=>?_);obtain⟨rfl,h2,h3,h4⟩:=hq;exact⟨.inl ⟨.bool true,.bool true,[],rfl,fun _=>rfl,.bool true,xO l _,fun _=>⟨List.Pairwise.nil,fun _ hm=>(nomatch hm)⟩⟩,h2,h3,h4⟩
end Att
namespace L2
open PySem PySem.Spec PyProof.Rows
theorem xr{vs:List Value}{ns:List Int}(hI:IntsAre vs ns):Vals (ns.map V.int) vs:=by
 induction hI with
 |nil=>exact .nil
 |cons n t h ih=>exact .cons ⟨t,rfl⟩ (ih)
def By(H:Hp):Prop:=∀b,H b=none\/∃o xs,H b=some (.frz o (.lst xs))
theorem zD{P:Program}{w:World}{K:Frag}{mg mb:Str->Option Value}{CX:CXT}{k:Nat}{fa a:Addr}{fd:FuncData}{x:Str}{sp:Sp}{s₁:Shared}{vs:List Value}{ns:List Int}
  (KX:K.In s₁.heap) (hns:s₁.heap.Ns mainGlobals mg) (hb:s₁.heap.Ns builtinsNs mb) (hbb:∀x:Str,x≠"__name__"->mb x=bootBuiltins x) (hlim:s₁.heap.NoLimit) (hg:s₁.gens= #[])
  (ha:s₁.heap.get? a=some {cls:=.type "list",data:=.seq vs.toArray}) (hi:IntsAre vs ns) (hl:ns.length<=sizeLine) (hr:eA k callerA)
  (F:∀base:Heap,K.In base->base.Ns mainGlobals mg->lV P w K mg base CX k fa fd [x] sp) (hbind:∀(s:Shared)(u:Value),BindsTo s fd ⟨[u],[]⟩ [(x,u)])
  (hsp:∀H:Hp,By H->SqL K H a (ns.map V.int)->sp [.ref a] H (fun v _=>v=.bl true) fun _ _ _=>False)
  (hCX:∀H e s',CX [] H s₁ (fun _ _ _=>False) e s'->False):
  codeAny (model P w) callerA (.call (.ref fa) ⟨[.ref a],[]⟩) (fun r s'=>r=.ok (.ret (.bool true))/\OldK s₁.heap s'.heap/\s'.os=s₁.os/\AllBare s'.gens) s₁:=by
 have rv:=xr hi;have lenV:=hi.length;have core:∀H:Hp,By H->SqL K H a (ns.map V.int)->HOk P w H s₁.heap->(∀b,H b≠none->b=a)->(H a≠none->K.lookup a=none)->
   codeAny (model P w) callerA (.call (.ref fa) ⟨[.ref a],[]⟩) (fun r s'=>r=.ok (.ret (.bool true))/\OldK s₁.heap s'.heap/\s'.os=s₁.os/\AllBare s'.gens) s₁:=by
  intro H hO hS hok hA hK;have base_of:∀{b:Addr}{o:Obj},s₁.heap.get? b=some o->H b=none->(rQ s₁.heap H).get? b=some o:=fun e n=>zF e n;have noA:∀{b:Addr}{o:Obj}{es:Array DictEntry}{ep:Nat},s₁.heap.get? b=some o->o.data=.dict es ep->H b=none:=fun {b o es ep} e d=>by
   cases q:H b with
   |none=>rfl
   |some u=>have e':b=a:=hA b (by rw[q];simp);subst e';rw[ha]at e;cases e;have d':Data.seq vs.toArray _=Data.dict es ep:=d;cases d'
  have nsK:∀{b:Addr}{m:Str->Option Value},s₁.heap.Ns b m->(rQ s₁.heap H).Ns b m:=fun {b m} ⟨o,es,ep,e,d,r⟩=>⟨o,es,ep,base_of e (noA e d),d,r⟩
  have hKb:K.In (rQ s₁.heap H):=fun b o e=>base_of (KX b o e) (by
   cases q:H b with
   |none=>rfl
   |some u=>
    have e':b=a:=hA b (by rw[q];simp);subst e'
    rw[hK (by rw[q];simp)]at e;cases e)
  have hM:Mod K mg (rQ s₁.heap H):=⟨hKb,nsK hns,⟨mb,nsK hb,hbb⟩,let ⟨mc,h1,h2⟩:=hlim;⟨mc,nsK h1,h2⟩⟩;have e0:wg P w K mg (rQ s₁.heap H) callerA [] s₁ H:=⟨rfl,hM,fun b o e=>AO e,Nat.le_of_eq (yg _ _),trivial,fun b hb=>absurd (show b∈([]:List Addr)from hb) (by simp),hok,.of_eq hg⟩;refine codeAny_mono ((F _ hKb (nsK hns)).run callerA [] s₁ H ⟨[.ref a],[]⟩ [.ref a] [.ref a] _ _ hr e0 (hbind s₁ (.ref a)) (.cons rfl .nil) (hsp H hO hS)) fun r s' h=>?_;cases r with
  |error e=>exact(hCX H e s' h).elim
  |ok fl=>
   cases fl with
   |next=>exact False.elim h
   |brk=>exact False.elim h
   |cont=>exact False.elim h
   |ret u=>
    obtain⟨v,H',os,bare,un,hok',r',q⟩:=h;have q':v=.bl true:=q;subst q';obtain rfl:u=Value.bool true:=r';refine⟨rfl,OldK.of_keep fun b o e=>?_,os,bare⟩;cases q:H b with
    |none=>exact un.keep b o e q (by intro z;exact absurd (show b∈([]:List Addr)from z) (by simp)) (by simp)
    |some u=>
     rcases hO b with z|⟨ob,xs,z⟩
     ·rw[q]at z;cases z
     ·have z2:=un.frzs b ob _ z;obtain⟨e1,_⟩:=hok b _ z;obtain⟨e2,_⟩:=hok' b _ z2;rw[e]at e1;cases e1;exact e2
 cases hk:K.lookup a with
 |some o=>have e:=KX a o hk;rw[ha]at e;cases e;refine core (fun _=>none) (fun _=>.inl rfl) (.inr ⟨_,vs.toArray,_,hk,rfl,rfl,rfl,by rw[EJ,lenV];exact hl,by simpa using rv⟩) (fun b u z=>by have z':(none:Option HO)=some u:=z;cases z') (fun b z=>absurd rfl z) fun z=>absurd rfl z
 |none=>
  refine core (fun b=>if b=a then some (.frz {cls:=.type "list",data:=.seq vs.toArray} (.lst (ns.map V.int)))else none) (fun b=>?_) (.inl (.inr ⟨{cls:=.type "list",data:=.seq vs.toArray},Fl rfl⟩)) (fun b u z=>?_) (fun b z=>?_) fun _=>hk
  ·by_cases hb:b=a
   ·exact .inr ⟨_,_,Fl hb⟩
   ·exact .inl (Fb hb)
  ·by_cases hb:b=a
   ·have z':=(Fl hb).symm.trans z;cases z';subst hb;exact⟨ha,by rw[Ew];exact hl,vs,_,rv,ha⟩
   ·have z':=(Fb hb).symm.trans z;cases z'
  ·by_cases hb:b=a
   ·exact hb
   ·exact absurd (Fb hb) z
noncomputable abbrev KOf{K:Frag}{h:Heap}(_:K.In h):Frag:=K
theorem Am{l:PySem.W.OpenLaw}{n k:Nat}{q:Program}{loose:List Str}{XP:(Str->Option Value)->Heap->Prop}{YP:World->Heap->Prop}{d:DefRec}{K:Params->Frag}{CX:World->CXT}{sp:World->Sp}{x:Str}
  (hn:l.most=some n) (hn2:n<=sizeLine) (hdf:d.params.defaults=[]) (hr:eA k callerA)
  (hY:∀(w:World)(h:Heap),YP w h->(K w.params).In h)
  (F:∀(w:World)(mg:Str->Option Value)(fa:Addr)(h:Heap),(K w.params).In h->h.Ns mainGlobals mg->mg d.name=some (.ref fa)->
   ∃fd:FuncData,(∀(s:Shared)(u:Value),BindsTo s fd ⟨[u],[]⟩ [(x,u)])/\
    ∀base:Heap,(K w.params).In base->base.Ns mainGlobals mg->lV l.prog w (K w.params) mg base (CX w) k fa fd [x] (sp w))
  (hsp:∀(w:World)(H:Hp)(a:Addr)(ns:List Int),ns.length<=n->By H->SqL (K w.params) H a (ns.map V.int)->sp w [.ref a] H (fun v _=>v=.bl true) fun _ _ _=>False)
  (hCX:∀(w:World)(H:Hp)(s:Shared)(e:Value)(s':Shared),CX w [] H s (fun _ _ _=>False) e s'->False):
  PySem.W.WalkO q loose XP YP l.row.toRowW d [] (fun f vs=>PySem.call f vs):=by
 refine Att.uP hn hdf fun w s₀ s₁ mg mb fa o pm cd doc a vs ns G Y ho hd hcd hmg hobj hints hlen hg=>?_;have KX:=hY w _ Y;obtain⟨fd,hb,hF⟩:=F w mg fa _ KX G.T.g hmg;exact zD KX G.T.g G.T.b G.T.builtins G.T.nolimit hg hobj hints (EX hlen hn2) hr hF hb (fun H hO hS=>hsp w H a ns hlen hO hS) fun H e s'=>hCX w H s₁ e s'
theorem yx{l:PySem.W.OpenLaw}{n k:Nat}{q:Program}{loose:List Str}{XP:(Str->Option Value)->Heap->Prop}{YP:World->Heap->Prop}{d:DefRec}{K:Params->Frag}{CX:CXT}{sp:Frag->Sp}{x:Str}
  (hn:l.most=some n) (hn2:n<=sizeLine) (hdf:d.params.defaults=[]) (hr:eA k callerA)
  (hY:∀(w:World)(h:Heap),YP w h->(K w.params).In h)
  (F:∀(w:World)(mg:Str->Option Value)(fa:Addr)(h:Heap),(K w.params).In h->h.Ns mainGlobals mg->mg d.name=some (.ref fa)->
   ∃fd:FuncData,(∀(s:Shared)(u:Value),BindsTo s fd ⟨[u],[]⟩ [(x,u)])/\
    ∀base:Heap,(K w.params).In base->base.Ns mainGlobals mg->lV l.prog w (K w.params) mg base CX k fa fd [x] (sp (K w.params)))
  (hsp:∀(K:Frag)(H:Hp)(a:Addr)(ns:List Int),ns.length<=n->By H->SqL K H a (ns.map V.int)->sp K [.ref a] H (fun v _=>v=.bl true) fun _ _ _=>False)
  (hCX:∀(H:Hp)(s:Shared)(e:Value)(s':Shared),CX [] H s (fun _ _ _=>False) e s'->False):
  PySem.W.WalkO q loose XP YP l.row.toRowW d [] (fun f vs=>PySem.call f vs):=
 Am (K:=K) (CX:=fun _=>CX) (sp:=fun w=>sp (K w.params)) hn hn2 hdf hr hY F (fun w H a ns h1 h2 h3=>hsp (K w.params) H a ns h1 h2 h3) fun _ H s e s'=>hCX H s e s'
noncomputable def fN(s:Stmt):Arguments:=match s with
 | .FunctionDef _ a _ _ _ _ _ _ _ _=>a
 |_=>{posonlyargs:=[],args:=[],vararg:=none,kwonlyargs:=[],kw_defaults:=[],kwarg:=none,defaults:=[]}
noncomputable def dq(s:Stmt):List Stmt:=match s with
 | .FunctionDef _ _ b _ _ _ _ _ _ _=>b
 |_=>[]
noncomputable def ao(s:Stmt):Scope:=match s with
 | .FunctionDef _ _ _ _ _ _ sc _ _ _=>sc
 |_=>{kind:=.function,names:=[],isGenerator:=false,isCoroutine:=false}
noncomputable abbrev CX0:CXT:=fun _ _ _ _ _ _=>False
noncomputable abbrev E0:XK:=fun _ _ _=>False
theorem zb{X:Cx}:Passes CX0 X E0:=fun _ _ _ _ _ _ _ h=>h.elim
structure Fun(K:Frag)(x qual:Str)(st:Stmt)(f:Addr)(fd:FuncData):Prop where
 ex:∃(oc:Value)(od:Option Addr)(kV doc pm:Value)(an:Option Addr)(cdv ct:Value)(osl:Array (Option Value)),
  fd=fnOf x qual (fN st) (dq st) (ao st) .none kV doc pm an cdv ct/\K.lookup f=some ⟨oc,od,.func fd,osl⟩/\codeIn K cdv qual=true
 kp:keepIn K (.ref f)=true
section
variable{P:Program}{w:World}{K:Frag}{mg:Str->Option Value}{base:Heap}
theorem Fun.ok{x qual:Str}{st:Stmt}{f:Addr}{fd:FuncData}{N ps:List Str}{k:Nat}{sp:Sp}(F:Fun K x qual st f fd)(S:ay N ps (ao st))(len:∀vs H Q E,sp vs H Q E->vs.length=ps.length)
  (hbody:∀(cdv:Value)(A:Around)(outer:List Env)(s:Shared)(H:Hp)(vs:List V)(Q:VK)(E:XK),eA k (A.deeper (envOfC qual (ao st) s.heap.objs.size f cdv))->sp vs H Q E->
   ∃t,PSs (iz CX0 P w K mg base N qual (ao st) f cdv A outer s H E).nox (dq st) t/\t {nx:=fun _ H'=>Q .non H',rt:=Q} (start N vs) H):lV P w K mg base CX0 (k+1) f fd ps sp:=by
 obtain⟨oc,od,kV,doc,pm,an,cdv,ct,osl,rfl,lk,hcd⟩:=F.ex;refine zK lk hcd S len fun A outer s H vs Q E hr hsp=>?_;obtain⟨t,h,q⟩:=hbody cdv A outer s H vs Q E hr hsp;exact⟨t,h.nox,q⟩
theorem Fun.binds{x qual:Str}{st:Stmt}{f:Addr}{fd:FuncData}{ps:List Str}(F:Fun K x qual st f fd)
  (h:∀(kV doc pm:Value)(an:Option Addr)(cdv ct:Value)(us:List Value),us.length=ps.length->bindArgs (fnOf x qual (fN st) (dq st) (ao st) .none kV doc pm an cdv ct) ⟨us,[]⟩=pure (ps.zip us)):Binds K fd ps []:=by
 obtain⟨oc,od,kV,doc,pm,an,cdv,ct,osl,rfl,lk,hcd⟩:=F.ex;exact .all (h kV doc pm an cdv ct)
theorem rS{x qual:Str}{st:Stmt}{f:Addr}{oc:Value}{od an:Option Addr}{osl:Array (Option Value)}{kV doc pm cdv ct:Value}(l:K.lookup f=some ⟨oc,od,.func (fnOf x qual (fN st) (dq st) (ao st) .none kV doc pm an cdv ct),osl⟩)
 (c:codeIn K cdv qual=true) (k:keepIn K (.ref f)=true):Fun K x qual st f (fnOf x qual (fN st) (dq st) (ao st) .none kV doc pm an cdv ct):=⟨⟨oc,od,kV,doc,pm,an,cdv,ct,osl,rfl,l,c⟩,k⟩
end
theorem aM{n:Nat}(h:n<=1000):n<sizeLine:=Nat.lt_of_le_of_lt h (by decide)
section
variable{X:Cx}
theorem pv(i:Nat){x:Str}{pos:Pos}(hN:X.N[i]?=some x:=by rfl)(hv:Vis X.env.scope x:=by first|exact Or.inl rfl|exact Or.inr (Or.inl rfl)|exact Or.inr (Or.inr rfl))(hd:(x==("__debug__":Str))=false:=by decide)
 (hcd:(x==("__classdict__":Str))=false:=by decide):PE X (.Name x pos) (Ao i):=B2 hN hv hd hcd
end
theorem bP{A B:Prop}(h:B):if false=true then A else B:=by rw[Fb EE];exact h
theorem fL{A B:Prop}(h:A):if true=true then A else B:=by rw[Fl rfl];exact h
theorem aT{c A B:Prop}[Decidable c](h1:c->A)(h2:¬c->B):if c then A else B:=by
 by_cases h:c
 ·rw[Fl h];exact h1 h
 ·rw[Fb h];exact h2 h
def aq(H H':Hp):Prop:=∀b o,H b=some o->H' b=some o
theorem aq.refl(H:Hp):aq H H:=fun _ _ h=>h
theorem aq.trans{H H1 H2:Hp}(a:aq H H1)(b:aq H1 H2):aq H H2:=fun c o h=>b c o (a c o h)
theorem aq.free{H H':Hp}(e:aq H H'){l:Addr}(h:H' l=Option.none):H l=Option.none:=by
 cases q:H l with
 |none=>rfl
 |some o=>rw[e l o q]at h;cases h
theorem aq.seq{K:Frag}{H H':Hp}{a:Addr}{xs:List V}(e:aq H H')(h:SqL K H a xs):SqL K H' a xs:=by
 rcases h with(h|⟨o,h⟩)|h
 ·exact .inl (.inl (e _ _ h))
 ·exact .inl (.inr ⟨o,e _ _ h⟩)
 ·exact .inr h
section
variable{X:Cx}
noncomputable abbrev eg(X:Cx)(N':List Str)(scope:Scope)(cl:List (Str×Addr))(C:Addr)(ex:List Addr)(s:Shared)(H:Hp):Cx where
 prog:=X.prog
 w:=X.w
 K:=X.K
 mg:=X.mg
 base:=X.base
 A:=X.A
 N:=N'
 s₀:=s
 H₀:=H
 env:=compEnvC scope cl C X.env
 outer:=X.stack
 stack:=X.stack
 ex:=ex
 fn:=fun x=>(cl.lookup x).isNone
 calm:=X.calm
 pn:=[]
 xe:=fun _ _=>False
def Bx(X:Cx)(ifs:List Expr)(t:TT):Prop:=
 ∀(pins:List (Addr×Obj))(s:Shared)(σ:St)(H:Hp)(Q:Bool->Hp->Prop),Inv X pins σ H s->t σ H Q->
  wpAny (model X.prog X.w) X.A (forIn ifs true fun c r=>if r=true then do let ok <-isTrue c X.env (eval c X.env);pure (ForInStep.yield ok)else pure (ForInStep.yield r)) (TP X pins σ Q) X.xe s
def DQ:TT:=fun _ H Q=>Q true H
theorem dE:Bx X [] DQ:=fun _ _ _ H _ I h=>wpAny_tests_nil ⟨H,I,h⟩
theorem yX{c:Expr}{t:TT}(h:PT X c t):Bx X [c] t:=fun pins s σ H Q I q=>wpAny_tests_one (h pins s σ H Q I q)
def Wk(σ σ2:St):Prop:=σ.length=σ2.length/\∀(i:Nat) v,σ[i]?=some (some v)->σ2[i]?=some (some v)
noncomputable def fE(n:Nat)(js:List Nat)(σ:St):St:=List.replicate n none++js.map fun j=>(σ[j]?).join
def C3(wi:TI)(g:TG)(tt:TT)(te:TE)(n:Nat)(js:List Nat):TE:=fun σ H Q=>wi σ H fun J H1=>∀D,H1 D=none->∃W:Nat->Nat->List V->Hp->Prop,(∃m,W 0 m [] (upd H1 D (.lst [])))/\∀i m acc H2,W i m acc H2->
 (J.stop i H2/\Q (.ref D) H2)\/(J.go i H2/\∃N:List V->Hp->Prop,(∀acc' H',N acc' H'->∃m',m'<m/\W (i+1) m' acc' H')/\∀x H3,J.yld i H2 x H3->g x (fE n js σ) H3 fun σ2 H4=>tt σ2 H4 fun b H5=>
  if b=true then te σ2 H5 fun y H6=>H6 D=some (.lst acc)/\acc.length<sizeLine/\N (acc++[y]) (upd H6 D (.lst (acc++[y])))else N acc H5)
theorem zE{pins:List (Addr×Obj)}{σ:St}{H:Hp}{s:Shared}{fp:List Addr}{scope:Scope}{cl:List (Str×Addr)}{own:List Str}{fr:List (Str×Nat)}{h1:Heap}{m0:Str->Option Value}{tk:Nat}
  (I:Inv X pins σ H s) (hf:∀b∈fp,nq X pins H b) (hlt:∀b∈fp,b<s.heap.objs.size) (hkind:scope.kind=.function)
  (hcl:∀x c,cl.lookup x=some c->X.env.cells.lookup x=some c)
  (hkin:∀x,((relabel scope X.env).names.lookup x=some .cell\/(relabel scope X.env).names.lookup x=some .free)->∃c,cl.lookup x=some c)
  (hfr:∀p∈fr,X.N[p.2]?=some p.1/\X.env.kindOf p.1=some .cell)
  (hvis:∀p∈fr,(relabel scope X.env).names.lookup p.1=some .cell)
  (hn:h1.Ns s.heap.objs.size m0) (kk:∀b u,s.heap.get? b=some u->h1.get? b=some u):
  Inv (eg X (own++fr.map (·.1)) scope cl s.heap.objs.size fp s H) [] (fE own.length (fr.map (·.2)) σ) H {s with heap:=h1,toks:=tk}:=by
 refine⟨⟨I.ok.mod,hkind,I.ok.glob,I.ok.blt,EG _,fun x y c e1 e2=>I.ok.inj x y c (hcl x c e1) (hcl y c e2),hkin,fun x c h e=>?_,I.ok.hd,I.ok.frames,.inl rfl,fun b hb=>?_,I.bs,EX I.ok.bsz I.sz,fun b o e hb=>?_,fun b hb z=>?_,I.stack,I.stkFree⟩,
  rfl,I.bare,Un.kept kk,⟨m0,hn,fun i x v e1 e2 e3=>?_⟩,fun x c e=>?_,I.hok.fresh (EG _),fun x c e=>I.freeC x c (hcl x c e),fun p hp=>absurd (show p∈([]:List (Addr×Obj))from hp) (by simp),I.hok.kept kk,?_⟩
 ·have h':(cl.lookup x).isNone=true:=h;have e':cl.lookup x=some c:=e;rw[e']at h';cases h'
 ·exact⟨Fx (hlt b hb),fun x c e=>(hf b hb).2.2.2.2.1 x c (hcl x c e)⟩
 ·rcases (hf b hb).2.2.2.1 with z|z
  ·exact I.ok.noex b o e z
  ·exact absurd (EB (EM (I.ok.bs b o e).1) z) (F6 _)
 ·rcases Fd.mp (I.stkSub b z)with e|e
  ·exact(hf b hb).2.1 e
  ·exact(hf b hb).2.2.1 e
 ·have e1':(own++fr.map (·.1))[i]?=some x:=e1;have e2':(List.replicate own.length none++(fr.map (·.2)).map fun j=>(σ[j]?).join)[i]?=some (some v):=e2;by_cases hi:i<own.length
  ·rw[List.getElem?_append_left (by simpa using hi),List.getElem?_replicate]at e2';split at e2'<;>cases e2'
  ·rw[FU (by omega)]at e1';rw[FU (by simpa using hi)]at e2';simp only[List.length_replicate,E8,Option.map_map]at e1' e2';cases q:fr[i-own.length]? with
   |none=>rw[q]at e1';cases e1'
   |some p=>
    rw[q]at e1' e2';simp only[Option.map_some,Option.some.injEq]at e1' e2';subst e1';have hp:p∈fr:=EY q;obtain⟨m,_,hl⟩:=I.loc;have e3':σ[p.2]?=some (some v):=by
     cases z:σ[p.2]? with
     |none=>rw[Function.comp_apply,z]at e2';cases e2'
     |some y=>rw[Function.comp_apply,z]at e2';simp only[Option.join]at e2';rw[<-e2'];rfl
    obtain⟨u,r,l⟩:=hl p.2 p.1 v (hfr p hp).1 e3' (.inr (.inl (hfr p hp).2));refine⟨u,r,?_⟩;rcases l with⟨k,_⟩|⟨_,c,hc,z⟩
    ·rw[(hfr p hp).2]at k;cases k
    ·obtain⟨c',hc'⟩:=hkin p.1 (.inl (hvis p hp));have e4:=hcl _ _ hc';rw[hc]at e4;cases e4;obtain⟨o,ho,hd⟩:=z;exact .inr ⟨.inl (hvis p hp),c,hc',⟨o,kk _ _ ho,hd⟩⟩
 ·obtain⟨v,o,ho,hd⟩:=I.cell x c (hcl x c e);exact⟨v,o,kk _ _ ho,hd⟩
 ·show(fE own.length (fr.map (·.2)) σ).length=(own++fr.map (·.1)).length;simp[fE]
theorem rZ{prog:Program}{w:World}{A:Around}{R:Result->Shared->Prop}{s:Shared}{elt target iter:Expr}{ifs:List Expr}{scope:Scope}{pos:Pos}{it acc:Value}{env:Env}(I:Nat->Shared->Prop)
  (turn:∀n s,I n s->wpAny (model prog w) A (pyNext it) (fun r s₁=>match r with
   |none=>R (.ok .next) s₁
   |some v=>wpAny (model prog w) A (letOwnedTupleGo target it v) (fun _ s₁'=>wpAny (model prog w) A (assign target env v) (fun _ s₂=>
    wpAny (model prog w) A (forIn ifs true fun c r=>if r=true then do let ok <-isTrue c env (eval c env);pure (ForInStep.yield ok)else pure (ForInStep.yield r)) (fun ok s₃=>
     if ok=true then wpAny (model prog w) A (eval elt env) (fun x s₄=>wpAny (model prog w) A (call (.builtin "list.append") [acc,x]) (fun _ s₅=>∃m,m<n/\I m s₅) (notedBy (model prog w) A env fun e s'=>R (.error e) s') s₄) (notedBy (model prog w) A env fun e s'=>R (.error e) s') s₃
     else ∃m,m<n/\I m s₃) (notedBy (model prog w) A env fun e s'=>R (.error e) s') s₂) (notedBy (model prog w) A env fun e s'=>R (.error e) s') s₁') (notedBy (model prog w) A env fun e s'=>R (.error e) s') s₁) (notedBy (model prog w) A env fun e s'=>R (.error e) s') s)
  (n:Nat) (h:I n s):
  codeAny (model prog w) A (.compLoop (.ListComp elt [⟨target,iter,ifs,0⟩] scope pos) 0 it acc env) R s:=by
 refine codeAny_loop rfl I (fun n s hI=>?_) n h;show wpAny _ A ((compTurn (.ListComp elt [⟨target,iter,ifs,0⟩] scope pos) 0 it acc env).onRaise (fun x=>do noteFrame x env;theTreesLotGoes x)) _ _ s;refine wpAny_noted ?_;rw[compTurn_list];refine Eu (wpAny_standAt (Eu (E6 (turn n s hI) (fun r s₁ h₁=>?_) fun _ _ h'=>h')));cases r with
 |none=>exact EF h₁
 |some v=>
  refine Eu (E6 h₁ (fun _ s₁' h₁'=>?_) fun _ _ h'=>h');refine Eu (E6 h₁' (fun _ s₂ h₂=>Eu (E6 h₂ (fun ok s₃ h₃=>?_) fun _ _ h'=>h')) fun _ _ h'=>h');cases ok with
  |false=>exact EF ⟨rfl,h₃⟩
  |true=>exact Eu (Eu (E6 h₃ (fun x s₄ h₄=>Eu (E6 h₄ (fun _ s₅ h₅=>EF (EF ⟨rfl,h₅⟩)) fun _ _ h'=>h')) fun _ _ h'=>h'))
theorem vW{elt tg iter:Expr}{ifs:List Expr}{scope:Scope}{pos:Pos}{g:TG}{tt:TT}{te:TE}{own:List Str}{fr:List (Str×Nat)}{cl:List (Str×Addr)}
  {pins:List (Addr×Obj)} {σ:St} {H:Hp} {s:Shared} {Q:VK} {it D:Addr} {fp:List Addr} {tn:Nat->Heap->Prop} {J:It} {W:Nat->Nat->List V->Hp->Prop} {m0:Nat} {RR:Value->Addr->Result->Shared->Prop}
  (hRR:∀(s6:Shared)(H5:Hp)(m:Str->Option Value),Inv X pins σ H5 s6->s6.heap.Ns s.heap.objs.size m->nq X pins H5 s.heap.objs.size->Q (.ref D) H5->RR (.ref D) s.heap.objs.size (.ok .next) s6)
  (hc:X.calm=true) (hkind:scope.kind=.function) (hnc:∀y∈scope.names,y.2≠ .cell)
  (hcl:∀x c,cl.lookup x=some c->X.env.cells.lookup x=some c)
  (hkin:∀x,((relabel scope X.env).names.lookup x=some .cell\/(relabel scope X.env).names.lookup x=some .free)->∃c,cl.lookup x=some c)
  (hfr:∀p∈fr,X.N[p.2]?=some p.1/\X.env.kindOf p.1=some .cell) (hvis:∀p∈fr,(relabel scope X.env).names.lookup p.1=some .cell)
  (hw:∀x σ H R,σ.length=own.length+fr.length->(∀(i:Nat),i<own.length->σ[i]?=some none)->g x σ H R->g x σ H fun σ2 H2=>Wk σ σ2/\R σ2 H2)
  (hg:∀C ex s H,PG (eg X (own++fr.map (·.1)) scope cl C ex s H) tg g)
  (ht:∀C ex s H,Bx (eg X (own++fr.map (·.1)) scope cl C ex s H) ifs tt)
  (he:∀C ex s H,PE (eg X (own++fr.map (·.1)) scope cl C ex s H) elt te)
  (I:Inv X pins σ H s) (T:Turn X.prog X.w X.K tg J fp it tn) (st:tn 0 s.heap) (hf:∀b∈fp,nq X pins H b) (w0:W 0 m0 [] H)
  (turn:∀i m acc H2,W i m acc H2->(J.stop i H2/\Q (.ref D) H2)\/(J.go i H2/\∃N:List V->Hp->Prop,(∀acc' H',N acc' H'->∃m',m'<m/\W (i+1) m' acc' H')/\∀x H3,J.yld i H2 x H3->g x (fE own.length (fr.map (·.2)) σ) H3 fun σ2 H4=>tt σ2 H4 fun b H5=>if b=true then te σ2 H5 fun y H6=>H6 D=some (.lst acc)/\acc.length<sizeLine/\N (acc++[y]) (upd H6 D (.lst (acc++[y])))else N acc H5)):
  wpAny (model X.prog X.w) X.A (newFunctionEnv scope X.env.globals cl [] X.env.qual none .none (some X.env)) (fun cenv s₄=>
   codeAny (model X.prog X.w) X.A (.compStart (.ListComp elt [⟨tg,iter,ifs,0⟩] scope pos) 0 (.ref it) (.ref D) {cenv with scope:=relabel scope X.env})
    (RR (.ref D) cenv.locals) s₄) X.xe s:=by
 have hlt:∀b∈fp,b<s.heap.objs.size:=fun b hb=>by obtain⟨o,e,_⟩:=T.obj 0 _ st b hb;exact EM e
 refine wpAny_newFunctionEnv hnc (by intro y hy;simp at hy) (fun h₁ hns hsb=>?_) hkind;have kk:∀b u,s.heap.get? b=some u->h₁.get? b=some u:=fun b u e=>(hsb.2 b (Fx (EM e))).trans (Ex _ e);have I4:Inv (eg X (own++fr.map (·.1)) scope cl s.heap.objs.size fp s H) [] (fE own.length (fr.map (·.2)) σ) H {s with heap:=h₁,toks:=s.toks+([]:List (Str×Value)).length}:=
  zE I hf hlt hkind hcl hkin hfr hvis hns kk
 have st4:tn 0 h₁:=T.keep _ _ _ st fun b _ o e=>kk b o e;have hσ:(fE own.length (fr.map (·.2)) σ).length=own.length+fr.length:=by simp[fE]
 have hσ0:∀(i:Nat),i<own.length->(fE own.length (fr.map (·.2)) σ)[i]?=some none:=fun i hi=>by unfold fE;rw[List.getElem?_append_left (by simpa using hi),List.getElem?_replicate,Fl hi]
 have stat:∀{H':Hp},(∀b∈fp,H' b=none)->∀b∈fp,nq (eg X (own++fr.map (·.1)) scope cl s.heap.objs.size fp s H) [] H' b:=fun hn b hb=>⟨hn b hb,Fx (hlt b hb),fun z=>(Fd.mp (I.stkSub b z)).elim (hf b hb).2.1 (hf b hb).2.2.1,.inl hb,fun x c e=>(hf b hb).2.2.2.2.1 x c (hcl x c e),fun p hp=>absurd (show p∈([]:List (Addr×Obj))from hp) (by simp)⟩
 have loop:∀s4:Shared,s4={s with heap:=h₁,toks:=s.toks+([]:List (Str×Value)).length}->
   codeAny (model X.prog X.w) X.A (.compLoop (.ListComp elt [⟨tg,iter,ifs,0⟩] scope pos) 0 (.ref it) (.ref D) (compEnvC scope cl s.heap.objs.size X.env))
    (RR (.ref D) s.heap.objs.size) s4:=by
  rintro s4 rfl;refine rZ (fun n s'=>∃i acc H',Inv (eg X (own++fr.map (·.1)) scope cl s.heap.objs.size fp s H) [] (fE own.length (fr.map (·.2)) σ) H' s'/\tn i s'.heap/\(∀b∈fp,H' b=none)/\W i n acc H') ?_ m0
   ⟨0,[],H,I4,st4,fun b hb=>(hf b hb).1,w0⟩
  rintro n s5 ⟨i,acc,H5,I5,st5,fr5,w5⟩;rcases turn i n acc H5 w5 with⟨stop,q⟩|⟨go,N,hN,step⟩
  ·refine E6 (T.done (eg X (own++fr.map (·.1)) scope cl s.heap.objs.size fp s H) rfl rfl rfl hc i [] s5 _ H5 _ I5 (stat fr5) st5 stop) (fun r s6 ⟨hr,I6⟩=>?_) (fun _ _ z=>z);subst hr;obtain⟨m6,hn6,_⟩:=id I6.loc;have I7:Inv X pins σ H5 s6:=I.call' (ch:=fp) I6.os I6.base I6.hok I6.bare (fun b hb=>⟨(hf b hb).2.2.2.1,(hf b hb).2.1,(hf b hb).2.2.2.2.1,(hf b hb).2.2.2.2.2⟩);exact hRR s6 H5 m6 I7 hn6 (I.fpOk (H':=H5) (EG _) I6.free) q
  ·refine E6 (T.item (eg X (own++fr.map (·.1)) scope cl s.heap.objs.size fp s H) rfl rfl rfl hc i [] s5 _ H5 _ I5 (stat fr5) st5 go) (fun r s6 hPz=>?_) (fun _ _ z=>z);obtain⟨u,hr,h6⟩:=hPz;subst hr;refine E6 h6 (fun _ s7 hPz=>?_) (fun _ _ z=>z);obtain⟨x,H7,I7,r7,y7,st7,fr7⟩:=hPz;have I7':=I7.pinned (stat fr7) (T.obj _ _ st7);refine E6 (hg s.heap.objs.size fp s H _ s7 _ H7 x u _ I7' r7 (hw x _ H7 _ hσ hσ0 (step x H7 y7))) (fun _ s8 hPz=>?_) (fun _ _ z=>False.elim z);obtain⟨σ8,H8,I8,wk,q8⟩:=hPz;have again:∀{s10:Shared}{H10:Hp}{acc':List V},Inv (eg X (own++fr.map (·.1)) scope cl s.heap.objs.size fp s H) ([]++oo fp s7.heap) σ8 H10 s10->N acc' H10->
     ∃m,m<n/\∃i acc H',Inv (eg X (own++fr.map (·.1)) scope cl s.heap.objs.size fp s H) [] (fE own.length (fr.map (·.2)) σ) H' s10/\tn i s10.heap/\(∀b∈fp,H' b=none)/\W i m acc H':=fun {s10 H10 acc'} I10 n10=>by
    obtain⟨m',hm,w10⟩:=hN acc' H10 n10;refine⟨m',hm,i+1,acc',H10,I10.unpinned.weak wk.1 wk.2,T.keep _ _ _ st7 fun b hb o e=>(I10.pin (b,o) (E4 _ (E4 _ (iq hb e)))).1,fun b hb=>?_,w10⟩;obtain⟨o,e,d⟩:=T.obj _ _ st7 b hb;exact(I10.pin (b,o) (E4 _ (E4 _ (iq hb e)))).2.1
   refine E6 (ht s.heap.objs.size fp s H _ s8 σ8 H8 _ I8 q8) (fun b s9 hPz=>?_) (fun _ _ z=>False.elim z);obtain⟨H9,I9,q9⟩:=hPz;cases b with
   |false=>exact again I9 q9
   |true=>refine E6 (he s.heap.objs.size fp s H _ s9 σ8 H9 _ I9 q9) (fun y s10 hPz=>?_) (fun _ _ z=>False.elim z);obtain⟨yv,H10,I10,r10,hD,hl,n10⟩:=hPz;refine E6 (bY (X:=eg X (own++fr.map (·.1)) scope cl s.heap.objs.size fp s H) _ s10 σ8 H10 (.ref D) [yv] (.ref D) [y] (fun _ H'=>H'=upd H10 D (.lst (acc++[yv]))) I10 rfl (.cons r10 .nil) ⟨D,acc,yv,rfl,rfl,hD,hl,rfl⟩) (fun _ s11 hPz=>?_) (fun _ _ z=>False.elim z);obtain⟨_,H11,I11,_,e11⟩:=hPz;subst e11;exact again I11 n10
 exact codeAny_compStart_list (loop _ rfl) (T.self _ 0 _ _ _ st4 (loop _ rfl))
theorem cV{elt tg iter:Expr}{ifs:List Expr}{scope:Scope}{pos:Pos}{wi:TI}{g:TG}{tt:TT}{te:TE}(own:List Str)(fr:List (Str×Nat))(cl:List (Str×Addr))
  (hc:X.calm=true) (hclos:closureFor scope X.env=pure cl) (hkind:scope.kind=.function) (hnc:∀y∈scope.names,y.2≠ .cell)
  (hnames:∀y∈scope.names,y.2=.local->scope.names.lookup y.1=some .local)
  (hcl:∀x c,cl.lookup x=some c->X.env.cells.lookup x=some c)
  (hkin:∀x,((relabel scope X.env).names.lookup x=some .cell\/(relabel scope X.env).names.lookup x=some .free)->∃c,cl.lookup x=some c)
  (hfr:∀p∈fr,X.N[p.2]?=some p.1/\X.env.kindOf p.1=some .cell) (hvis:∀p∈fr,(relabel scope X.env).names.lookup p.1=some .cell)
  (hw:∀x σ H R,σ.length=own.length+fr.length->(∀(i:Nat),i<own.length->σ[i]?=some none)->g x σ H R->g x σ H fun σ2 H2=>Wk σ σ2/\R σ2 H2)
  (hi:PI X tg iter wi)
  (hg:∀C ex s H,PG (eg X (own++fr.map (·.1)) scope cl C ex s H) tg g)
  (ht:∀C ex s H,Bx (eg X (own++fr.map (·.1)) scope cl C ex s H) ifs tt)
  (he:∀C ex s H,PE (eg X (own++fr.map (·.1)) scope cl C ex s H) elt te)
  (hs:∀x,foldedSetIterable iter X.env x=pure x:=by intro _;rfl):
  PE X (.ListComp elt [⟨tg,iter,ifs,0⟩] scope pos) (C3 wi g tt te own.length (fr.map (·.2))):=by
 intro pins s σ H Q I h;rw[eval_ListComp];refine wpAny_comprehension_free (use:=none) rfl hs hclos hkind hnames (thn (hi pins s σ H _ I h) fun v s1 h1=>thn h1 fun itv s2 h2=>?_);obtain⟨it,fp,tn,J,H2,e,I2,T,st2,f2,h2⟩:=h2;subst e;obtain⟨W,⟨m0,w0⟩,turn⟩:=h2 s2.heap.objs.size I2.fresh;have I3:=I2.lnew (its:=[]) (ys:=[]) (t':=s2.toks) .nil (EH _);refine F4 (T:="list") ?_;refine vW (RR:=fun acc C=>compPost (model X.prog X.w) X.A X.xe none (EP X pins σ Q) acc C) (W:=W) (m0:=m0) (D:=s2.heap.objs.size) (own:=own) (fr:=fr)
  (fun s6 H5 m I7 hn fc q=>⟨m,hn,fun h7 sb=>⟨.ref s2.heap.objs.size,H5,I7.turned (t':=s6.toks) (fun b o hb e=>(sb.2 b hb).trans e) fc.1 fc.2.1 fc.2.2.2.1 fc.2.2.2.2.1 fc.2.2.2.2.2,rfl,q⟩⟩) hc hkind hnc hcl hkin hfr hvis hw hg ht he I3 T (T.keep _ _ _ st2 fun b _ o e=>Ex _ e) (fun b hb=>?_) w0 turn
 obtain⟨o,e,_⟩:=T.obj _ _ st2 b hb;exact⟨by rw[aN (Fx (EM e))];exact(f2 b hb).1,(f2 b hb).2⟩
noncomputable def jr(env:Env)(xs:List Str):List (Str×Addr):=xs.map fun x=>(x,(env.cells.lookup x).getD 0)
noncomputable def BG(names:List (Str×NameKind))(xs:List Str):Bool:=names.all fun p=>(!(decide (p.2=.cell))&& !(decide (p.2=.free)))||decide (p.1∈xs)
theorem mX{env:Env}:∀{xs:List Str}{x:Str},x∈xs->∃c,(jr env xs).lookup x=some c
 | [],_,h=>absurd h (by simp)
 |y::xs,x,h=>by
  show ∃c,List.lookup x ((y,(env.cells.lookup y).getD 0)::jr env xs)=some c;rw[List.lookup_cons];cases e:x==y with
  |true=>exact⟨_,rfl⟩
  |false=>
   rcases Fd.mp h with rfl|h
   ·rw[beq_self_eq_true]at e;cases e
   ·exact mX h
theorem bT{env:Env}:∀{xs:List Str},(xs.all fun x=>(env.cells.lookup x).isSome)=true->∀x c,(jr env xs).lookup x=some c->env.cells.lookup x=some c
 | [],_,x,c,h=>by cases h
 |y::xs,ha,x,c,h=>by
  rw[List.all_cons,EL]at ha;have h':List.lookup x ((y,(env.cells.lookup y).getD 0)::jr env xs)=some c:=h;rw[List.lookup_cons]at h';cases e:x==y with
  |true=>
   rw[e]at h';have exy:x=y:=eq_of_beq e;subst exy;have hc:(env.cells.lookup x).getD 0=c:=Fo h';cases q:env.cells.lookup x with
   |none=>rw[q]at ha;cases ha.1
   |some z=>rw[q]at hc;rw[<-hc];rfl
  |false=>rw[e]at h';exact bT ha.2 x c h'
theorem fC{names:List (Str×NameKind)}{xs:List Str}{env:Env}(h:BG names xs=true):∀x,(names.lookup x=some .cell\/names.lookup x=some .free)->∃c,(jr env xs).lookup x=some c:=fun x hx=>by
 refine mX ?_;unfold BG at h;rw[FV]at h;rcases hx with hx|hx
 ·have:=h _ (FR hx);simpa using this
 ·have:=h _ (FR hx);simpa using this
theorem dZ{n m i:Nat}(hi:i<n):∀x σ H R,σ.length=n+m->(∀(k:Nat),k<n->σ[k]?=some none)->w9 i x σ H R->w9 i x σ H fun σ2 H2=>Wk σ σ2/\R σ2 H2:=fun x σ H R _ h0 h=>
 ⟨⟨by simp,fun k v e=>by
  by_cases hk:k=i
  ·subst hk;rw[h0 _ hi]at e;cases e
  ·rw[List.getElem?_set_ne (Gj hk)];exact e⟩,h⟩
theorem pj{n:Nat}{g:TG}{tt:TT}{te:TE}{σ0:St}{lo:Int}{Q:VK}{D:Addr}{H:Hp}(Pv:Nat->List V->Hp->Prop)(h0:Pv 0 [] H)
  (hs:∀i acc H2,i<n->Pv i acc H2->g (.int (lo+i)) σ0 H2 fun σ2 H4=>tt σ2 H4 fun b H5=>if b=true then te σ2 H5 fun y H6=>H6 D=some (.lst acc)/\acc.length<sizeLine/\Pv (i+1) (acc++[y]) (upd H6 D (.lst (acc++[y])))else Pv (i+1) acc H5)
  (hd:∀acc H2,Pv n acc H2->Q (.ref D) H2):
  ∃W:Nat->Nat->List V->Hp->Prop,(∃m,W 0 m [] H)/\∀i m acc H2,W i m acc H2->
   ((Itr lo n).stop i H2/\Q (.ref D) H2)\/((Itr lo n).go i H2/\∃N:List V->Hp->Prop,(∀acc' H',N acc' H'->∃m',m'<m/\W (i+1) m' acc' H')/\∀x H3,(Itr lo n).yld i H2 x H3->g x σ0 H3 fun σ2 H4=>tt σ2 H4 fun b H5=>if b=true then te σ2 H5 fun y H6=>H6 D=some (.lst acc)/\acc.length<sizeLine/\N (acc++[y]) (upd H6 D (.lst (acc++[y])))else N acc H5):=by
 refine⟨fun i m acc H=>m=n-i/\i<=n/\Pv i acc H,⟨n,by simp,EH _,h0⟩,?_⟩;rintro i m acc H2 ⟨rfl,hi,p⟩;by_cases hlt:i<n
 ·refine .inr ⟨hlt,Pv (i+1),fun acc' H' p'=>⟨n-(i+1),by omega,rfl,hlt,p'⟩,fun x H3 y=>?_⟩;obtain⟨e,y⟩:=y;subst e y;exact hs i acc _ hlt p
 ·have e:i=n:=by omega
  subst e;exact .inl ⟨EG _,hd acc H2 p⟩
end
mutual
inductive IsD(K:Frag)(H:Hp):PyData->V->Prop
 |non:IsD K H .none .non
 |bl (b:Bool):IsD K H (.bool b) (.bl b)
 |int (i:Int):IsD K H (.int i) (.int i)
 |str (x:Str):IsD K H (.str x) (.str x)
 |tup {a:Addr} {vs:List V} {ds:List PyData}:SqT K H a vs->nj K H ds vs->IsD K H (.tuple ds) (.ref a)
 |lst {a:Addr} {vs:List V} {ds:List PyData}:SqL K H a vs->nj K H ds vs->IsD K H (.list ds) (.ref a)
inductive nj(K:Frag)(H:Hp):List PyData->List V->Prop
 |nil:nj K H [] []
 |cons {d:PyData} {v:V} {ds:List PyData} {vs:List V}:IsD K H d v->nj K H ds vs->nj K H (d::ds) (v::vs)
end
section
variable{X:Cx}{pins:List (Addr×Obj)}{σ:St}{H:Hp}{s:Shared}
mutual
theorem IsD.reads(I:Inv X pins σ H s):∀{d:PyData}{v:V}{u:Value},IsD X.K H d v->RelV v u->∃as,Reads s.heap u d as
 |_,_,_,.non,r=>by cases r;exact⟨_,.none⟩
 |_,_,_,.bl b,r=>by cases r;exact⟨_,.bool b⟩
 |_,_,_,.int i,r=>by obtain⟨t,rfl⟩:=r;exact⟨_,.int i t⟩
 |_,_,_,.str x,r=>by obtain⟨t,rfl⟩:=r;exact⟨_,.str x t⟩
 |_,_,_,.tup h1 h2,r=>by cases r;obtain⟨its,rv,⟨o,e,c,n,d⟩,hz⟩:=I.tuple h1;obtain⟨as,ra⟩:=nj.reads I h2 rv;exact⟨_,.tuple e c d (by simpa using ra)⟩
 |_,_,_,.lst h1 h2,r=>by cases r;obtain⟨its,rv,pl,hz⟩:=I.list h1;obtain⟨o,e,c,n,d⟩:=pl.isList;obtain⟨as,ra⟩:=nj.reads I h2 rv;exact⟨_,.list e c d (by simpa using ra)⟩
theorem nj.reads(I:Inv X pins σ H s):∀{ds:List PyData}{vs:List V}{us:List Value},nj X.K H ds vs->Vals vs us->∃as,ReadsAll s.heap us ds as
 |_,_,_,.nil,.nil=>⟨_,.nil⟩
 |_,_,_,.cons h t,.cons r rs=>by obtain⟨as,ra⟩:=IsD.reads I h r;obtain⟨bs,rb⟩:=nj.reads I t rs;exact⟨_,.cons ra rb⟩
end
noncomputable def Ed(K:Frag):R2:=fun x y H Q=>∃d1 d2,IsD K H d1 x/\IsD K H d2 y/\d1.canLay0=true/\d2.canLay0=true/\d2.depth<=50/\Q (.bl (PyData.eqv d1 d2)) H
noncomputable def Ea(K:Frag):R2:=fun x y H Q=>∃d1 d2,IsD K H d1 x/\IsD K H d2 y/\d1.canLay0=true/\d2.canLay0=true/\d2.depth<=50/\Q (.bl (!PyData.eqv d1 d2)) H
theorem mf(hu:X.A.units+64<cLine):OpR X (compareOp .Eq) (Ed X.K):=by intro pins s σ H x y v u Q I rx ry h;obtain⟨d1,d2,h1,h2,c1,c2,hd,q⟩:=h;obtain⟨as,ra⟩:=IsD.reads I h1 rx;obtain⟨bs,rb⟩:=IsD.reads I h2 ry;exact SeqAt.rcAt_reads ra rb c1 c2 (by omega) _ _ _ _ (show EP X pins σ Q _ s from⟨.bl _,H,I,rfl,q⟩)
theorem ou(hu:X.A.units+64<cLine):OpR X (compareOp .NotEq) (Ea X.K):=by intro pins s σ H x y v u Q I rx ry h;obtain⟨d1,d2,h1,h2,c1,c2,hd,q⟩:=h;obtain⟨as,ra⟩:=IsD.reads I h1 rx;obtain⟨bs,rb⟩:=IsD.reads I h2 ry;exact SeqAt.rcNeAt_reads ra rb c1 c2 (by omega) _ _ _ _ (show EP X pins σ Q _ s from⟨.bl _,H,I,rfl,q⟩)
theorem oy:OpR X (binaryOp .FloorDiv) (rI (fun _ j=>0<j/\j.natAbs.log2<9000) fun i j=>.int (i / j)):=opI fun i j _ _ _ _ _ hc q=>by have h1:(0:Int)<j:=hc.1;exact floordiv_int (by omega) (by rw[Int.fdiv_eq_ediv_of_nonneg i (by omega)];exact q) (.inl (PyProof.noPylong_of_log2 hc.2))
def Dh:V->List V->Hp->VK->Prop:=fun x xs H Q=>∃i,x=.int i/\xs=[]/\Q (.int (Builtin.Int.intBits i:Nat)) H
theorem wU:MtR X "int.bit_length" Dh:=by intro pins s σ H x xs v us Q I rx rv h;obtain⟨i,rfl,rfl,q⟩:=h;cases rv;obtain⟨t,rfl⟩:=rx;exact call_int_bit_length ⟨.int _,H,I.tok _,⟨_,rfl⟩,q⟩
def Ec(K:Frag):List V->Hp->VK->Prop:=fun xs H Q=>∃x n t b,xs=[x,.ty n]/\dJ K H x t/\kitOne K t (.type n)=some b/\Q (.bl b) H
theorem cL:fG X (.builtin "isinstance") (Ec X.K):=by
 intro pins s σ H xs us Q I rs h;obtain⟨x,n,t,b,rfl,ty,e,q⟩:=h;cases rs with
 |cons r rr=>
  cases rr with
  |cons r2 rr=>cases rr;cases r2;exact yd I r ty e fun tk=>⟨.bl b,H,I.tok _,rfl,q⟩
structure Df(P:Program)(w:World)(K:Frag)(mg:Str->Option Value)(base:Heap)(k:Nat)(x:Str)(ps:List Str)(sp:Sp):Prop where
 ex:∃f fd,lV P w K mg base CX0 k f fd ps sp/\Binds K fd ps []/\mg x=some (.ref f)/\keepIn K (.ref f)=true
structure Tx(K:Frag)(mg:Str->Option Value)(x:Str)(st:Stmt)(ps:List Str):Prop where
 ex:∃f fd,Fun K x x st f fd/\Binds K fd ps []/\mg x=some (.ref f)
theorem Tx.df{P:Program}{w:World}{K:Frag}{mg:Str->Option Value}{base:Heap}{x:Str}{st:Stmt}{N ps:List Str}{k:Nat}{sp:Sp}(T:Tx K mg x st ps)(S:ay N ps (ao st))
  (len:∀vs H Q E,sp vs H Q E->vs.length=ps.length)
  (hbody:∀(f:Addr)(cdv:Value)(A:Around)(outer:List Env)(s:Shared)(H:Hp)(vs:List V)(Q:VK)(E:XK),eA k (A.deeper (envOfC x (ao st) s.heap.objs.size f cdv))->sp vs H Q E->
   ∃t,PSs (iz CX0 P w K mg base N x (ao st) f cdv A outer s H E).nox (dq st) t/\t {nx:=fun _ H'=>Q .non H',rt:=Q} (start N vs) H):Df P w K mg base (k+1) x ps sp:=by
 obtain⟨f,fd,F,b,hm⟩:=T.ex;exact⟨f,fd,F.ok S len fun cdv A outer s H vs Q E hr h=>hbody f cdv A outer s H vs Q E hr h,b,hm,F.kp⟩
def tCF(sp:Sp)(t:TA):TE:=fun σ H Q=>t σ H fun vs H1=>sp vs H1 Q E0
theorem au{j k:Nat}{x:Str}{ps:List Str}{sp:Sp}{p pos:Pos}{e:Expr}{es:List Expr}{t:TA}(D:Df X.prog X.w X.K X.mg X.base j x ps sp)(hr:eA k X.A)(ha:PA X (e::es) t)(hg:Gl X x:=by rfl)(hj:j<=k:=by decide)
  (hdb:(x==("__debug__":Str))=false:=by decide) (he:starEach (e::es) X.env=(false,eval e X.env)::starEach es X.env:=by rfl) (hpl:(backTo pos (starEach es X.env)).any (·.1)=false:=by rfl):
  PE X (.Call (.Name x p) (e::es) [] pos) (tCF sp t):=by
 obtain⟨f,fd,F,b,hm,kp⟩:=D.ex;have h:=wK (ds:=[]) (dvs:=[]) (E:=E0) (p:=p) (pos:=pos) F (hr.mono hj) hg hm kp b .nil zb ha hdb he hpl;have e1:sW sp [] E0 t=tCF sp t:=by funext σ H Q;unfold sW tCF;simp only[E2]
 rw[e1]at h;exact h
structure Bn(mg:Str->Option Value):Prop where
 len:mg "len"=none
 range:mg "range"=none
 isinstance:mg "isinstance"=none
 int:mg "int"=none
 bool:mg "bool"=none
 list:mg "list"=none
 tuple:mg "tuple"=none
 str:mg "str"=none
 dict:mg "dict"=none
 sorted:mg "sorted"=none
 enumerate:mg "enumerate"=none
 min:mg "min"=none
 max:mg "max"=none
 set:mg "set"=none
theorem aq.upd{H:Hp}{a:Addr}{o:HO}(h:H a=none):aq H (upd H a o):=fun b u e=>by rw[aN (cR e h)];exact e
theorem aq.tup{K:Frag}{H H':Hp}{a:Addr}{xs:List V}(e:aq H H')(h:SqT K H a xs):SqT K H' a xs:=by
 rcases h with(h|⟨o,h⟩)|h
 ·exact .inl (.inl (e _ _ h))
 ·exact .inl (.inr ⟨o,e _ _ h⟩)
 ·exact .inr h
end
theorem CM{K:Frag}{h:Heap}{mg:Str->Option Value}{x:Str}{st:Stmt}{ps:List Str}{f:Addr}{oc:Value}{od an:Option Addr}{osl:Array (Option Value)}{kV doc pm cdv ct:Value}(X:K.In h)(G:h.Ns mainGlobals mg)
  (a:nsIn K mainGlobals x=some (some (.ref f)))
  (l:K.lookup f=some ⟨oc,od,.func (fnOf x x (fN st) (dq st) (ao st) .none kV doc pm an cdv ct),osl⟩)
  (c:codeIn K cdv x=true) (k:keepIn K (.ref f)=true)
  (hb:∀(kV doc pm:Value)(an:Option Addr)(cdv ct:Value)(us:List Value),us.length=ps.length->bindArgs (fnOf x x (fN st) (dq st) (ao st) .none kV doc pm an cdv ct) ⟨us,[]⟩=pure (ps.zip us)):Tx K mg x st ps:=
 ⟨f,_,rS l c k,(rS l c k).binds hb,FW X G a⟩
theorem DH{K:Frag}{h:Heap}{mg:Str->Option Value}(X:K.In h)(G:h.Ns mainGlobals mg)
  (z0:nsIn K mainGlobals "len"=some none) (z1:nsIn K mainGlobals "range"=some none) (z2:nsIn K mainGlobals "isinstance"=some none)
  (z3:nsIn K mainGlobals "int"=some none) (z4:nsIn K mainGlobals "bool"=some none) (z5:nsIn K mainGlobals "list"=some none) (z6:nsIn K mainGlobals "tuple"=some none)
  (z7:nsIn K mainGlobals "str"=some none) (z8:nsIn K mainGlobals "dict"=some none) (z9:nsIn K mainGlobals "sorted"=some none) (z10:nsIn K mainGlobals "enumerate"=some none)
  (z11:nsIn K mainGlobals "min"=some none) (z12:nsIn K mainGlobals "max"=some none) (z13:nsIn K mainGlobals "set"=some none):Bn mg:=
 ⟨E7 X G z0,E7 X G z1,E7 X G z2,E7 X G z3,E7 X G z4,E7 X G z5,E7 X G z6,E7 X G z7,E7 X G z8,E7 X G z9,E7 X G z10,E7 X G z11,E7 X G z12,E7 X G z13⟩
def CQ(t u:TS):TS:=fun D σ H=>∃R:St->Hp->Prop,t {D with nx:=R} σ H/\∀σ' H',R σ' H'->u D σ' H'
theorem bj{X:Cx}{st:Stmt}{rest:List Stmt}{t u:TS}(h1:PS X st t)(h2:PSs X rest u):PSs X (st::rest) (CQ t u):=by
 intro pins s σ H D I h;obtain⟨R,h,hR⟩:=h;refine wpAny_execs_cons (thn (h1 pins s σ H {D with nx:=R} I h) fun f s1 q=>?_);cases f with
 |next=>obtain⟨σ',H',I',q⟩:=q;exact h2 pins s1 σ' H' D I' (hR σ' H' q)
 |ret v=>exact q
 |brk=>exact q
 |cont=>exact q
theorem aK{n:Nat}(h:Nat.ble n 1000=true):n<=sizeLine:=EX (Et h) (by decide)
end L2
namespace LM
noncomputable def gp(c:Nat):List Nat:=(List.range 64).filter c.testBit
theorem j6{c k:Nat}(hc:c<2^64):k∈gp c<->c.testBit k=true:=by
 unfold gp;rw[List.mem_filter,FC];constructor
 ·exact fun h=>h.2
 ·intro h;refine⟨?_,h⟩;rcases Nat.lt_or_ge k 64 with q|q
  ·exact q
  ·rw[Nat.testBit_lt_two_pow (EB hc (EN (by decide) q))]at h;cases h
theorem mE{c m n:Nat}(hm:c<2^m)(h:m<=n):(List.range m).filter c.testBit=(List.range n).filter c.testBit:=by
 obtain⟨d,rfl⟩:=Nat.exists_eq_add_of_le h
 induction d with
 |zero=>rfl
 |succ d ih=>rw[<-Nat.add_assoc,Gg,List.filter_append,<-ih (by omega)];have e:c.testBit (m+d)=false:=Nat.testBit_lt_two_pow (EB hm (EN (by decide) (by omega)));simp[e]
noncomputable def bX(w h k:Nat):List Nat:=
 (if 0<k / w then[k-w]else[])++((if 0<k % w then[k-1]else[])++((if k % w+1<w then[k+1]else[])++(if k / w+1<h then[k+w]else[])))
theorem mv{w h k j:Nat}:j∈bX w h k<->(0<k / w/\j=k-w)\/(0<k % w/\j=k-1)\/(k % w+1<w/\j=k+1)\/(k / w+1<h/\j=k+w):=by unfold bX;by_cases h1:0<k / w<;>by_cases h2:0<k % w<;>by_cases h3:k % w+1<w<;>by_cases h4:k / w+1<h<;>simp[h1,h2,h3,h4]
theorem rC{w h k j:Nat}(hw:0<w)(hk:k<w*h)(hj:j∈bX w h k):j<w*h:=by
 have e:w*(k / w)+k % w=k:=Nat.div_add_mod k w;have r:k % w<w:=Nat.mod_lt k hw;have q:k / w<h:=(Nat.div_lt_iff_lt_mul hw).mpr (by rw[Nat.mul_comm];exact hk);rcases mv.mp hj with⟨_,rfl⟩|⟨_,rfl⟩|⟨h3,rfl⟩|⟨h4,rfl⟩
 ·omega
 ·omega
 ·have:w*(k / w+1)<=w*h:=Nat.mul_le_mul_left w q;rw[Nat.mul_add]at this;omega
 ·have:w*(k / w+1+1)<=w*h:=Nat.mul_le_mul_left w h4;rw[Nat.mul_add,Nat.mul_add]at this;omega
theorem zu(w h k:Nat):(bX w h k).length<=4:=by unfold bX;by_cases h1:0<k / w<;>by_cases h2:0<k % w<;>by_cases h3:k % w+1<w<;>by_cases h4:k / w+1<h<;>simp[h1,h2,h3,h4]
noncomputable def dY(a:Nat)(js:List Nat):Nat:=js.foldl (fun a j=>a||| 2^j) a
noncomputable def mz(w h c:Nat):Nat:=(gp c).foldl (fun a k=>dY a (bX w h k)) c
theorem length_le_of_subset{α:Type}[DecidableEq α]:∀{l1 l2:List α},l1.Nodup->(∀x∈l1,x∈l2)->l1.length<=l2.length
 | [],_,_,_=>EH _
 |x::l1,l2,nd,h=>by
  obtain⟨nx,nd⟩:=List.nodup_cons.mp nd;have hx:x∈l2:=h x Fg;have ih:=length_le_of_subset (l1:=l1) (l2:=l2.erase x) nd fun y hy=>by have hne:y≠x:=fun e=>nx (e▸hy);exact(List.mem_erase_of_ne hne).mpr (h y (EZ _ hy))
  rw[List.length_erase_of_mem hx]at ih;have:=List.length_pos_of_mem hx;rw[ES];omega
theorem x5{w h k j:Nat}(hw:0<w)(hk:k<w*h)(hj:j∈bX w h k):k∈bX w h j:=by
 have e:w*(k / w)+k % w=k:=Nat.div_add_mod k w;have r:k % w<w:=Nat.mod_lt k hw;have q:k / w<h:=(Nat.div_lt_iff_lt_mul hw).mpr (by rw[Nat.mul_comm];exact hk);rw[mv];rcases mv.mp hj with⟨h1,rfl⟩|⟨h2,rfl⟩|⟨h3,rfl⟩|⟨h4,rfl⟩
 ·have hwk:w<=k:=by
   have:=Nat.mul_le_mul_left w h1;omega
  have ed:(k-w) / w=k / w-1:=by
   have:k=(k-w)+w:=(by omega);have e2:k / w=(k-w) / w+1:=by
    conv=>lhs;rw[this]
    exact Nat.add_div_right _ hw
   omega
  refine .inr (.inr (.inr ⟨by rw[ed];omega,by omega⟩))
 ·have e3:(k-1) % w=k % w-1:=by
   have:k-1=w*(k / w)+(k % w-1):=(by omega);rw[this,Nat.mul_add_mod];exact Nat.mod_eq_of_lt (by omega)
  refine .inr (.inr (.inl ⟨by rw[e3];omega,by omega⟩))
 ·have e3:(k+1) % w=k % w+1:=by
   have:k+1=w*(k / w)+(k % w+1):=(by omega);rw[this,Nat.mul_add_mod];exact Nat.mod_eq_of_lt (by omega)
  refine .inr (.inl ⟨by rw[e3];omega,by omega⟩)
 ·have ed:(k+w) / w=k / w+1:=Nat.add_div_right k hw;exact .inl ⟨by rw[ed];exact Nat.succ_pos _,by omega⟩
noncomputable def wR(w h k:Int):List Int:=
 (if decide (0<k / w)=true then[k-w]else[])++((if decide (0<k % w)=true then[k-1]else[])++((if decide (k % w<w-1)=true then[k+1]else[])++(if decide (k / w<h-1)=true then[k+w]else[])))
theorem ud(w h k:Nat):wR w h k=(bX w h k).map fun j:Nat=>(j:Int):=by
 unfold wR bX;have e1:((k:Int) / (w:Int))=((k / w:Nat):Int):=(Int.natCast_ediv k w).symm;have e2:((k:Int) % (w:Int))=((k % w:Nat):Int):=(Int.natCast_emod k w).symm;have q1:0<k / w->w<=k:=fun h=>by
  rcases Nat.lt_or_ge k w with q|q
  ·rw[Nat.div_eq_of_lt q]at h;omega
  ·exact q
 have q2:0<k % w->1<=k:=fun h=>by
  rcases Nat.eq_zero_or_pos k with q|q
  ·subst q;simp at h
  ·exact q
 rw[e1,e2];have b1:(if decide ((0:Int)<((k / w:Nat):Int))=true then[(k:Int)-w]else[])=(if 0<k / w then[k-w]else[]).map fun j:Nat=>(j:Int):=by
  by_cases h:0<k / w
  ·have:=q1 h;rw[Fl (by rw[Ez];omega),Fl h,List.map_singleton];congr 1;omega
  ·rw[Fb (by rw[Ez];omega),Fb h];rfl
 have b2:(if decide ((0:Int)<((k % w:Nat):Int))=true then[(k:Int)-1]else[])=(if 0<k % w then[k-1]else[]).map fun j:Nat=>(j:Int):=by
  by_cases h:0<k % w
  ·have:=q2 h;rw[Fl (by rw[Ez];omega),Fl h,List.map_singleton];congr 1;omega
  ·rw[Fb (by rw[Ez];omega),Fb h];rfl
 have b3:(if decide (((k % w:Nat):Int)<(w:Int)-1)=true then[(k:Int)+1]else[])=(if k % w+1<w then[k+1]else[]).map fun j:Nat=>(j:Int):=by
  by_cases h:k % w+1<w
  ·rw[Fl (by rw[Ez];omega),Fl h,List.map_singleton];congr 1
  ·rw[Fb (by rw[Ez];omega),Fb h];rfl
 have b4:(if decide (((k / w:Nat):Int)<(h:Int)-1)=true then[(k:Int)+w]else[])=(if k / w+1<h then[k+w]else[]).map fun j:Nat=>(j:Int):=by
  by_cases hh:k / w+1<h
  ·rw[Fl (by rw[Ez];omega),Fl hh,List.map_singleton];congr 1
  ·rw[Fb (by rw[Ez];omega),Fb hh];rfl
 rw[b1,b2,b3,b4];simp only[EK]
end LM
namespace My
open PySem L2 LM PyProof.Rows
theorem kc(a b:Nat):Builtin.bitAnd (a:Int) (b:Int)=((a&&& b:Nat):Int):=by rw[bitAnd_pp (by omega) (by omega)];simp only[ET]
theorem Co(c:Nat)(k:Int)(h:0<=k):decide (V.int (Builtin.bitAnd ((c:Int) / 2^k.toNat) 1)=V.int 1)=(decide (0<=k)&&c.testBit k.toNat):=by
 have e:(c:Int) / 2^k.toNat=((c / 2^k.toNat:Nat):Int):=by rw[Int.natCast_ediv,Int.natCast_pow];rfl
 have e2:Builtin.bitAnd ((c:Int) / 2^k.toNat) 1=((c / 2^k.toNat % 2:Nat):Int):=by rw[e];exact(kc _ 1).trans (by rw[Nat.and_one_is_mod])
 rw[e2,Nat.testBit_eq_decide_div_mod_eq,Ey h,E1,Fu,Ez,Ez];constructor
 ·intro z;have:=V.int.inj z;omega
 ·intro z;rw[z];rfl
theorem bits_le{c:Nat}(hc:c<2^64):Builtin.Int.intBits (c:Int)<=64:=by
 unfold Builtin.Int.intBits;by_cases h:(c:Int)==0
 ·rw[Fl h];omega
 ·rw[Fb h];have h0:c≠0:=fun z=>h (by rw[z];rfl);have:c.log2<64:=(Nat.log2_lt h0).mpr hc;simp only[Ga];omega
theorem v8{c:Nat}(hc:c<2^64):(List.range (Builtin.Int.intBits (c:Int))).filter c.testBit=gp c:=by
 refine mE ?_ (bits_le hc);unfold Builtin.Int.intBits;by_cases h:(c:Int)==0
 ·rw[Fl h];have:(c:Int)=0:=eq_of_beq h;have:c=0:=by omega
  subst this;decide
 ·rw[Fb h];simp only[Ga];exact Nat.lt_log2_self
theorem xN(c i:Nat):(decide ((0:Int)<=0+(i:Int))&&c.testBit ((0:Int)+(i:Int)).toNat)=c.testBit i:=by rw[Ey (by omega),E1];congr 1;omega
theorem get_map{l:List Nat}{i:Nat}{y:V}(h:(l.map fun k:Nat=>V.int (k:Int))[i]?=some y):∃k,l[i]?=some k/\y=V.int (k:Int):=by
 rw[E8]at h;cases e:l[i]? with
 |none=>rw[e]at h;cases h
 |some k=>rw[e]at h;exact⟨k,rfl,(Fo h).symm⟩
theorem uE{l:List Nat}{i:Nat}{y:V}(h:((l.map fun k:Nat=>(k:Int)).map V.int)[i]?=some y):∃k,l[i]?=some k/\y=V.int (k:Int):=by
 rw[E8,E8]at h;cases e:l[i]? with
 |none=>rw[e]at h;cases h
 |some k=>rw[e]at h;exact⟨k,rfl,(Fo h).symm⟩
theorem x9{c n k:Nat}(hc:c<2^n)(h:c.testBit k=true):k<n:=by
 rcases Nat.lt_or_ge k n with q|q
 ·exact q
 ·rw[Nat.testBit_lt_two_pow (EB hc (EN (by decide) q))]at h;cases h
theorem fq(j:Nat):(1:Int)*2^((j:Int)).toNat=((2^j:Nat):Int):=by rw[Int.one_mul,ET,Int.natCast_pow];rfl
theorem mG(a b:Nat):Builtin.bitOr (a:Int) (b:Int)=((a|||b:Nat):Int):=by have h:=nat_or_add_and a b;rw[bitOr_and,bitAnd_pp (by omega) (by omega)];simp only[ET];omega
theorem or_eq(a j:Nat):Builtin.bitOr (a:Int) (1*2^((j:Int)).toNat)=((a||| 2^j:Nat):Int):=by rw[fq,mG]
theorem tN(j:Int):(0:Int)<1*2^j.toNat:=by rw[Int.one_mul];exact Int.pow_pos (by decide)
theorem AF(k:Nat)(h:k<=64):((1:Int)*2^((k:Int)).toNat).natAbs.log2<9000:=by rw[fq,Ga,Nat.log2_two_pow];omega
theorem AZ(c k:Nat):decide (V.int ((c:Int) / (1*2^((k:Int)).toNat) % 2)=V.int 1)=c.testBit k:=by
 have e:(c:Int) / (1*2^((k:Int)).toNat) % 2=((c / 2^k % 2:Nat):Int):=by rw[fq,Int.natCast_emod,Int.natCast_ediv];rfl
 rw[e,Nat.testBit_eq_decide_div_mod_eq,Fu,Ez,Ez];constructor
 ·intro z;have:=V.int.inj z;omega
 ·intro z;rw[z];rfl
theorem Dn(c:Int): -(2^64)<c % (2^(64:Int).toNat)/\c % (2^(64:Int).toNat)<2^64:=by
 have e:((2:Int)^(64:Int).toNat)=18446744073709551616:=by decide
 rw[e];omega
theorem AS(v:Int)(n:Nat):∃z:Nat,v % (1*2^((n:Int)).toNat)=(z:Int)/\z<2^n:=by
 have h0:(0:Int)<((2^n:Nat):Int):=by have:=Gf n;omega
 refine⟨(v % ((2^n:Nat):Int)).toNat,?_,?_⟩
 ·rw[fq,Int.toNat_of_nonneg (E5 _ (by omega))]
 ·have h1:=E3 v h0;have h2:=E5 v (show((2^n:Nat):Int)≠0 by omega);omega
noncomputable def isI:V->Bool
 | .int _=>true
 |_=>false
noncomputable def isB:V->Bool
 | .bl _=>true
 |_=>false
theorem wX(K:Frag){H:Hp}{x:V}{n:String}(ty:dJ K H x (.type n)):kitOne K (.type n) (.type "int")=some (isI x||isB x):=by cases ty<;>kernel_rfl
theorem oV(K:Frag){H:Hp}{x:V}{n:String}(ty:dJ K H x (.type n)):kitOne K (.type n) (.type "bool")=some (isB x):=by cases ty<;>kernel_rfl
theorem Cg(K:Frag):kitOne K (.type "tuple") (.type "tuple")=some true:=by kernel_rfl
theorem BI(z:Int):∃w:Nat,1+z % 8=(w:Int)/\0<w/\w<=8:=⟨(1+z % 8).toNat,by omega,by omega,by omega⟩
def SX(l:Addr)(H H':Hp):Prop:=∀b o,b≠l->H b=some o->H' b=some o
theorem SX.refl(l:Addr)(H:Hp):SX l H H:=fun _ _ _ e=>e
theorem SX.trans{l:Addr}{H H1 H2:Hp}(a:SX l H H1)(b:SX l H1 H2):SX l H H2:=fun c o n e=>b c o n (a c o n e)
theorem SX.of{l:Addr}{H H':Hp}(a:aq H H'):SX l H H':=fun c o _ e=>a c o e
theorem SX.set{l:Addr}{H:Hp}{o:HO}:SX l H (upd H l o):=fun c u n e=>by rw[aN n];exact e
theorem SX.same{l:Addr}{H H1 H2:Hp}(h:H l=none)(a:aq H H1)(b:SX l H1 H2):aq H H2:=fun c o e=>b c o (cR e h) (a c o e)
theorem aq.set{l:Addr}{H H':Hp}{o:HO}(h:H l=none)(a:aq H H'):aq H (upd H' l o):=fun c u e=>by rw[aN (cR e h)];exact a c u e
theorem Ba(d z:Nat):(decide ((0:Int)<=(z:Int))&&d.testBit ((z:Int)).toNat)=d.testBit z:=by rw[Ey (by omega),E1,ET]
end My
namespace LM
open PyProof.Rows
theorem iB{a b:Nat}(h:∀j,a.testBit j=b.testBit j):a=b:=Nat.eq_of_testBit_eq h
theorem xm{a b:Nat}(h:∀j,a.testBit j=true<->b.testBit j=true):a=b:=Nat.eq_of_testBit_eq fun j=>by have:=h j;cases e1:a.testBit j<;>cases e2:b.testBit j<;>simp_all
theorem oU{a n:Nat}(h:∀j,a.testBit j=true->j<n):a<2^n:=Nat.lt_pow_two_of_testBit a fun j hj=>by
 cases e:a.testBit j with
 |false=>rfl
 |true=>have:=h j e;omega
theorem gq{c n k:Nat}(hc:c<2^n)(h:c.testBit k=true):k<n:=by
 rcases Nat.lt_or_ge k n with q|q
 ·exact q
 ·rw[Nat.testBit_lt_two_pow (EB hc (EN (by decide) q))]at h;cases h
theorem Bp(a b:Nat):(a&&& b)+(a^^^(a&&& b))=a:=by
 have h:=PyProof.Rows.nat_or_add_and (a&&& b) (a^^^(a&&& b));have e1:(a&&& b)|||(a^^^(a&&& b))=a:=iB fun j=>by simp only[FK,Nat.testBit_xor,Fz];cases a.testBit j<;>cases b.testBit j<;>rfl
 have e2:(a&&& b)&&& (a^^^(a&&& b))=0:=iB fun j=>by simp only[Fz,Nat.testBit_xor,Nat.zero_testBit];cases a.testBit j<;>cases b.testBit j<;>rfl
 rw[e1,e2]at h;omega
noncomputable def dif(a b:Nat):Nat:=a-(a&&& b)
theorem jw(a b j:Nat):(dif a b).testBit j=(a.testBit j&& !b.testBit j):=by
 have e:dif a b=a^^^(a&&& b):=by have:=Bp a b;unfold dif;omega
 rw[e];simp only[Nat.testBit_xor,Fz];cases a.testBit j<;>cases b.testBit j<;>rfl
theorem zO{a b n:Nat}(h:a<2^n):dif a b<2^n:=by unfold dif;omega
theorem ze{a b:Nat}(h:a&&& b=0):a|||b=a+b:=by have:=PyProof.Rows.nat_or_add_and a b;omega
theorem ny(k j:Nat):(2^k).testBit j=decide (k=j):=Nat.testBit_two_pow
theorem me{j:Nat}:∀{js:List Nat}{a:Nat},(dY a js).testBit j=true<->a.testBit j=true\/j∈js
 | [],a=>by simp[dY]
 |x::js,a=>by
  have e:dY a (x::js)=dY (a||| 2^x) js:=rfl;rw[e,me (js:=js)];simp only[FK,F5,ny,Ez,Fd];constructor
  ·rintro((h|h)|h)
   ·exact .inl h
   ·exact .inr (.inl h.symm)
   ·exact .inr (.inr h)
  ·rintro(h|h|h)
   ·exact .inl (.inl h)
   ·exact .inl (.inr h.symm)
   ·exact .inr h
theorem o9{w h j:Nat}:∀{ks:List Nat}{a:Nat},(ks.foldl (fun a k=>dY a (bX w h k)) a).testBit j=true<->a.testBit j=true\/∃k∈ks,j∈bX w h k
 | [],a=>by simp
 |x::ks,a=>by
  rw[List.foldl_cons,o9 (ks:=ks),me];constructor
  ·rintro((h|h)|⟨k,h1,h2⟩)
   ·exact .inl h
   ·exact .inr ⟨x,Fg,h⟩
   ·exact .inr ⟨k,EZ _ h1,h2⟩
  ·rintro(h|⟨k,h1,h2⟩)
   ·exact .inl (.inl h)
   ·rcases Fd.mp h1 with rfl|h1
    ·exact .inl (.inr h2)
    ·exact .inr ⟨k,h1,h2⟩
theorem my{w h c j:Nat}(hc:c<2^64):(mz w h c).testBit j=true<->c.testBit j=true\/∃k,c.testBit k=true/\j∈bX w h k:=by
 unfold mz;rw[o9];constructor
 ·rintro(h|⟨k,h1,h2⟩)
  ·exact .inl h
  ·exact .inr ⟨k,(j6 hc).mp h1,h2⟩
 ·rintro(h|⟨k,h1,h2⟩)
  ·exact .inl h
  ·exact .inr ⟨k,(j6 hc).mpr h1,h2⟩
theorem zG{w h c:Nat}(hw:0<w)(hn:w*h<=64)(hc:c<2^(w*h)):mz w h c<2^(w*h):=oU fun j hj=>by
 rcases (my (EB hc (EN (by decide) hn))).mp hj with z|⟨k,h1,h2⟩
 ·exact gq hc z
 ·exact rC hw (gq hc h1) h2
inductive Rch(w h c k:Nat):Nat->Prop where
 |here:c.testBit k=true->Rch w h c k k
 |step {j i:Nat}:Rch w h c k j->i∈bX w h j->c.testBit i=true->Rch w h c k i
theorem Rch.in{w h c k j:Nat}(r:Rch w h c k j):c.testBit j=true:=by
 cases r with
 |here e=>exact e
 |step _ _ e=>exact e
theorem Rch.start{w h c k j:Nat}(r:Rch w h c k j):c.testBit k=true:=by
 induction r with
 |here e=>exact e
 |step _ _ _ ih=>exact ih
theorem Rch.trans{w h c k j i:Nat}(a:Rch w h c k j)(b:Rch w h c j i):Rch w h c k i:=by
 induction b with
 |here _=>exact a
 |step _ n e ih=>exact .step ih n e
theorem Rch.symm{w h c k j:Nat}(hw:0<w)(hc:c<2^(w*h))(r:Rch w h c k j):Rch w h c j k:=by
 induction r with
 |here e=>exact .here e
 |step r n e ih=>exact(Rch.step (.here e) (x5 hw (gq hc r.in) n) r.in).trans ih
def cz(w h c k p:Nat):Prop:=∀j,p.testBit j=true<->Rch w h c k j
theorem cz.uniq{w h c k p q:Nat}(a:cz w h c k p)(b:cz w h c k q):p=q:=xm fun j=>(a j).trans (b j).symm
theorem cz.zero{w h c k:Nat}(hk:c.testBit k=false):cz w h c k 0:=fun j=>by
 constructor
 ·intro z;simp at z
 ·intro r;have:=r.start;rw[hk]at this;cases this
theorem cz.sub{w h c k p j:Nat}(a:cz w h c k p)(hj:p.testBit j=true):c.testBit j=true:=((a j).mp hj).in
theorem cz.lt{w h c k p n:Nat}(a:cz w h c k p)(hc:c<2^n):p<2^n:=oU fun _ hj=>gq hc (a.sub hj)
theorem cz.at{w h c k p j:Nat}(hw:0<w)(hc:c<2^(w*h))(a:cz w h c k p)(hj:p.testBit j=true):cz w h c j p:=fun i=>by
 have r:=(a j).mp hj;constructor
 ·intro hi;exact(r.symm hw hc).trans ((a i).mp hi)
 ·intro ri;exact(a i).mpr (r.trans ri)
structure dM(w h c k f g:Nat):Prop where
 fr:∀j,f.testBit j=true->Rch w h c k j
 gr:∀j,g.testBit j=true->Rch w h c k j
 cl:∀j i,f.testBit j=true->i∈bX w h j->c.testBit i=true->f.testBit i=true\/g.testBit i=true
 at_:f.testBit k=true\/g.testBit k=true
 ap:∀j,g.testBit j=true->f.testBit j=false
theorem dM.start{w h c k:Nat}(hk:c.testBit k=true):dM w h c k 0 (2^k) where
 fr:=fun j z=>by simp at z
 gr:=fun j z=>by rw[ny,Ez]at z;subst z;exact .here hk
 cl:=fun j i z=>by simp at z
 at_:=.inr (by rw[ny];simp)
 ap:=fun j _=>by simp
theorem dM.turn{w h c k f g:Nat}(hg:g<2^64)(I:dM w h c k f g):dM w h c k (f|||g) (dif (mz w h g&&& c) (f|||g)) where
 fr:=fun j z=>by rw[FK,F5]at z;exact z.elim (I.fr j) (I.gr j)
 gr:=fun j z=>by
  rw[jw,Fz,EL,EL]at z;rcases (my hg).mp z.1.1 with y|⟨i,h1,h2⟩
  ·exact I.gr j y
  ·exact .step (I.gr i h1) h2 z.1.2
 cl:=fun j i z hn hc=>by
  rw[FK,F5]at z;cases e:(f|||g).testBit i with
  |true=>exact .inl rfl
  |false=>
   right;rw[jw,Fz,e,hc];rcases z with z|z
   ·rcases I.cl j i z hn hc with y|y
    ·rw[FK,y]at e;cases e
    ·rw[FK,y,Bool.or_true]at e;cases e
   ·rw[(my hg).mpr (.inr ⟨j,z,hn⟩)];rfl
 at_:=.inl (by rw[FK,F5];exact I.at_)
 ap:=fun j z=>by rw[jw,EL]at z;simpa using z.2
theorem dM.done{w h c k f:Nat}(I:dM w h c k f 0):cz w h c k f:=fun j=>by
 constructor
 ·exact I.fr j
 ·intro r
  induction r with
  |here _=>exact I.at_.elim id fun z=>by simp at z
  |step _ hn hc ih=>exact(I.cl _ _ ih hn hc).elim id fun z=>by simp at z
theorem dM.less{w h c k f g n:Nat}(I:dM w h c k f g)(hg:g≠0)(hf:f|||g<2^n):2^n-(f|||g)<2^n-f:=by
 have h1:f|||g=f+g:=ze (iB fun j=>by
  rw[Fz,Nat.zero_testBit];cases e:g.testBit j with
  |false=>rw[Fi]
  |true=>rw[I.ap j e];rfl)
 omega
noncomputable def ib(c:Nat):Nat:=((List.range 64).find? c.testBit).getD 64
theorem wV{c L:Nat}(hL:L<64)(h1:c.testBit L=true)(h2:∀j,j<L->c.testBit j=false):ib c=L:=by
 unfold ib;have e:(List.range 64).find? c.testBit=some L:=by
  rw[List.find?_eq_some_iff_append];refine⟨h1,List.range L,(List.range (64-L-1)).map (fun x=>L+1+x),?_,fun j hj=>by simpa using h2 j (FC.mp hj)⟩;have:64=L+(1+(64-L-1)):=by omega
  conv=>lhs;rw[this]
  rw[List.range_add,List.range_add];simp[Nat.add_assoc]
 rw[e];rfl
theorem AU:∀(c:Nat),c≠0->∃L,c-(c&&& (c-1))=2^L/\c.testBit L=true/\∀j,j<L->c.testBit j=false:=by
 intro c
 induction c using Nat.strongRecOn with
 |_ c ih=>
  intro h0;rcases Nat.mod_two_eq_zero_or_one c with e|e
  ·obtain⟨L,h1,h2,h3⟩:=ih (c / 2) (by omega) (by omega);refine⟨L+1,?_,?_,?_⟩
   ·have ha:c&&& (c-1)=2*((c / 2)&&& (c / 2-1)):=by
     refine iB fun j=>?_;cases j with
     |zero=>rw[Fz,Nat.testBit_zero,e,Nat.testBit_zero];simp
     |succ j=>rw[Fz,F8,F8,F8,Nat.mul_div_cancel_left _ (by decide),Fz];congr 2;omega
    rw[ha,Nat.pow_succ,<-h1];omega
   ·rw[F8];exact h2
   ·intro j hj;cases j with
    |zero=>rw[Nat.testBit_zero,e];rfl
    |succ j=>rw[F8];exact h3 j (by omega)
  ·refine⟨0,?_,by rw[Nat.testBit_zero,e];rfl,fun j hj=>by omega⟩;have ha:c&&& (c-1)=c-1:=by
    refine iB fun j=>?_;cases j with
    |zero=>rw[Fz,Nat.testBit_zero,e,Nat.testBit_zero];simp
    |succ j=>rw[Fz,F8,F8];have:(c-1) / 2=c / 2:=(by omega);rw[this,Bool.and_self]
   rw[ha];omega
theorem ia{c:Nat}(hc:c<2^64)(h0:c≠0):c.testBit (ib c)=true/\(∀j,j<ib c->c.testBit j=false)/\c-(c&&& (c-1))=2^ib c:=by obtain⟨L,h1,h2,h3⟩:=AU c h0;have e:=wV (gq hc h2) h2 h3;rw[e];exact⟨h2,h3,h1⟩
theorem Ce{c n:Nat}(hc:c<2^n)(hn:n<=64)(h0:c≠0):ib c<n:=gq hc (ia (EB hc (EN (by decide) hn)) h0).1
inductive gv(w h:Nat):Nat->List Nat->Prop where
 |nil:gv w h 0 []
 |cons {r p:Nat} {ps:List Nat}:r≠0->cz w h r (ib r) p->gv w h (dif r p) ps->gv w h r (p::ps)
theorem gv.uniq{w h r:Nat}{ps qs:List Nat}(a:gv w h r ps):gv w h r qs->ps=qs:=by
 induction a generalizing qs with
 |nil=>
  intro b;cases b with
  |nil=>rfl
  |cons z _ _=>exact absurd rfl z
 |cons z cp _ ih=>
  intro b;cases b with
  |nil=>exact absurd rfl z
  |cons _ cq b=>have e:=cp.uniq cq;subst e;rw[ih b]
def Sub(r c:Nat):Prop:=∀j,r.testBit j=true->c.testBit j=true
theorem zU{w h r p:Nat}(hr:r<2^64)(h0:r≠0)(a:cz w h r (ib r) p):p≠0/\ib p=ib r/\p.testBit (ib r)=true:=by
 obtain⟨h1,h2,_⟩:=ia hr h0;have hp:p.testBit (ib r)=true:=(a _).mpr (.here h1);refine⟨fun z=>by rw[z]at hp;simp at hp,wV (gq hr h1) hp fun j hj=>?_,hp⟩;cases e:p.testBit j with
 |false=>rfl
 |true=>rw[<-h2 j hj,a.sub e]
end LM
namespace My
open PySem L2 LM PyProof.Rows
theorem ke(a b:Nat):Builtin.bitAnd (a:Int) (Builtin.bitNot (b:Int))=((dif a b:Nat):Int):=by rw[PyProof.Rows.bitAnd_not,kc];have:=Nat.and_le_left (n:=a) (m:=b);unfold dif;omega
theorem zX(L:Nat):Builtin.Int.intBits ((2^L:Nat):Int)=L+1:=by unfold Builtin.Int.intBits;have h0:2^L≠0:=Nat.ne_of_gt (Gf L);rw[Fb (fun z=>h0 (by have:=eq_of_beq z;omega)),Ga,Nat.log2_two_pow]
theorem zw{c:Nat}(hc:c<2^64)(h0:c≠0):((Builtin.Int.intBits (Builtin.bitAnd (c:Int) (-(c:Int))):Nat):Int)-1=((ib c:Nat):Int):=by
 have e: -(c:Int)=Builtin.bitNot ((c-1:Nat):Int):=by unfold Builtin.bitNot;omega
 have h:=(ia hc h0).2.2;rw[e,ke];unfold dif;rw[h,zX];omega
theorem zP{r p:Nat}(hs:Sub p r)(hp:p≠0):dif r p<r:=by
 have e:r&&& p=p:=iB fun j=>by
  rw[Fz];cases z:p.testBit j with
  |false=>rw[Fi]
  |true=>rw[hs j z];rfl
 have h1:p<=r:=by rw[<-e];exact Nat.and_le_left
 unfold dif;rw[e];omega
theorem and_zero{a b:Nat}(h:∀j,a.testBit j=true->b.testBit j=false):a&&& b=0:=iB fun j=>by
 rw[Fz,Nat.zero_testBit];cases z:a.testBit j with
 |false=>rfl
 |true=>rw[h j z];rfl
theorem mV{g:Nat}(h:(!decide (V.int (g:Int)=V.int 0))=true):g≠0:=by intro z;subst z;simp at h
theorem mW{g:Nat}(h:¬(!decide (V.int (g:Int)=V.int 0))=true):g=0:=by
 have h':decide (V.int (g:Int)=V.int 0)=true:=by simpa using h
 have:=V.int.inj (EA h');omega
noncomputable abbrev NV(L:List Nat):List V:=L.map fun k:Nat=>V.int (k:Int)
theorem wb(a b:List Nat):NV (a++b)=NV a++NV b:=EK
theorem mx{K:Frag}{H:Hp}:∀(l:List Nat),nj K H (l.map fun k:Nat=>PyData.int (k:Int)) (NV l)
 | []=>.nil
 |x::l=>.cons (.int x) (mx l)
theorem uv:∀(l:List Nat),PyData.canLayAll0 (l.map fun k:Nat=>PyData.int (k:Int))=true
 | []=>rfl
 |x::l=>by show(PyData.canLay0 (.int x)&&PyData.canLayAll0 (l.map _))=true;rw[uv l];rfl
end My
namespace L2
open PySem PySem.Spec PyProof.Rows
section
variable{X:Cx}{K:Frag}
theorem uz(h:X.K=K):IxR X (Dc K):=h▸bH
theorem wZ(h:X.K=K):IxR X (C9 K):=h▸aG
end
theorem fM{K:Frag}{h:Heap}{mg:Str->Option Value}{x:Str}{i:Int}{t:Tok}(X:K.In h)(G:h.Ns mainGlobals mg)(a:nsIn K mainGlobals x=some (some (.int i t))):∃t,mg x=some (.int i t):=⟨t,FW X G a⟩
theorem qi{n:Nat}{g:TG}{tt:TT}{te:TE}{σ0:St}{lo:Int}{Q:Hp->Prop}{D:Addr}{H:Hp}(Pv:Nat->List V->Hp->Prop)(h0:Pv 0 [] H)
  (hs:∀i acc H2,i<n->Pv i acc H2->g (.int (lo+i)) σ0 H2 fun σ2 H4=>tt σ2 H4 fun b H5=>if b=true then te σ2 H5 fun y H6=>H6 D=some (.lst acc)/\acc.length<sizeLine/\Pv (i+1) (acc++[y]) (upd H6 D (.lst (acc++[y])))else Pv (i+1) acc H5)
  (hd:∀acc H2,Pv n acc H2->Q H2):
  ∃W:Nat->Nat->List V->Hp->Prop,(∃m,W 0 m [] H)/\∀i m acc H2,W i m acc H2->
   ((Itr lo n).stop i H2/\Q H2)\/((Itr lo n).go i H2/\∃N:List V->Hp->Prop,(∀acc' H',N acc' H'->∃m',m'<m/\W (i+1) m' acc' H')/\∀x H3,(Itr lo n).yld i H2 x H3->g x σ0 H3 fun σ2 H4=>tt σ2 H4 fun b H5=>if b=true then te σ2 H5 fun y H6=>H6 D=some (.lst acc)/\acc.length<sizeLine/\N (acc++[y]) (upd H6 D (.lst (acc++[y])))else N acc H5):=
 pj (Q:=fun _ H=>Q H) Pv h0 hs hd
section
variable{κ:Type}[DecidableEq κ]
noncomputable def uY(kvs:List (κ×V))(k:κ):Option V:=(kvs.find? fun kv=>decide (kv.1=k)).map (·.2)
theorem sO{p:κ×V}{r:List (κ×V)}{k:κ}(e:p.1=k):uY (p::r) k=some p.2:=by simp[uY,List.find?_cons,e]
theorem sR{p:κ×V}{r:List (κ×V)}{k:κ}(e:¬p.1=k):uY (p::r) k=uY r k:=by simp[uY,List.find?_cons,e]
theorem lT.isSome_eq{o:Option V}{u:Option Value}(r:lT o u):o.isSome=u.isSome:=by
 cases o with
 |none=>cases u with
  |none=>rfl
  |some _=>exact(show False from r).elim
 |some _=>cases u with
  |none=>exact(show False from r).elim
  |some _=>rfl
theorem KV.val{kvs:List (κ×V)}{vs:List (κ×Value)}(r:KV kvs vs)(k:κ):lT (uY kvs k) (valueAt vs k):=by
 unfold KV at r
 induction r with
 |nil=>exact True.intro
 | @cons p q ps qs h t ih=>
  obtain⟨h1,h2⟩:=h;by_cases e:p.1=k
  ·have e':q.1=k:=h1.symm.trans e;have b:valueAt (q::qs) k=some q.2:=(by simp[valueAt,List.find?_cons,e']);rw[sO e,b];exact h2
  ·have e':¬q.1=k:=fun z=>e (h1.trans z);have b:valueAt (q::qs) k=valueAt qs k:=(by simp[valueAt,List.find?_cons,e']);rw[sR e,b];exact ih
end
theorem wY{P:Program}{w:World}{k:Key}{u:Value}(r:RelV (kV k) u):(fK P w).is k u=true:=by
 cases k with
 |inl i=>obtain⟨t,e⟩:=(show ∃t,u=Value.int i t from r);subst e;exact ug P w i t
 |inr x=>obtain⟨t,e⟩:=(show ∃t,u=Value.str x t from r);subst e;exact uf P w x t
def DN(i:Expr):Prop:=∀ov iv,subscripted i false ov iv=operate [ov,iv] (getItem ov iv)
theorem Aq{prog:Program}{w:World}{A:Around}{E:Value->Shared->Prop}{s:Shared}{env:Env}{value slice:Expr}{pos:Pos}{T id:String}{Q:Value->Shared->Prop}
  (hl:typeLookup (.type T) "__getitem__"=pure (some (.builtin id))) (hs:DN slice)
  (h:wpAny (model prog w) A (eval value env) (fun o s₁=>wpAny (model prog w) A (eval slice env) (fun i s₂=>s₂.TypeIs o T/\wpAny (model prog w) A (getItem o i) Q E s₂) E s₁) E s):
  wpAny (model prog w) A (eval (.Subscript value slice pos) env) Q E s:=by
 refine Subscript_ (E6 h (fun o s₁ h₁=>E6 h₁ (fun i s₂ h₂=>?_) fun _ _ x=>x) fun _ _ x=>x);obtain⟨hT,h₂⟩:=h₂;unfold subscriptTail;refine Eu ?_;rw[getitemInPython_of_ne hT.not_modules];refine Eu (wpAny_specialOf hT hl ?_);have fin:wpAny (model prog w) A (subscripted slice false o i) (fun r s₃=>wpAny (model prog w) A (letTemporaryGo value o r>>= fun _=>pure r) Q E s₃) E s₂:=by rw[hs o i];exact wpAny_operating (E6 h₂ (fun r s₃ h₃=>Eu (wpAny_letTemporaryGo (EF h₃))) fun _ _ x=>x)
 first
  |exact EF (Eu fin)
  |exact Eu (EF (Eu fin))
  |exact Eu fin
end L2
namespace LM
open PyProof.Rows
structure px(w h c k:Nat)(G T:List Nat):Prop where
 nd:G.Nodup
 at_:k∈G
 rc:∀x∈G,Rch w h c k x
 sb:∀x∈T,x∈G
 cl:∀x∈G,¬x∈T->∀i∈bX w h x,c.testBit i=true->i∈G
theorem px.start{w h c k:Nat}(hk:c.testBit k=true):px w h c k [k] [k] where
 nd:=by simp
 at_:=by simp
 rc:=fun x hx=>by rw[Fy]at hx;subst hx;exact .here hk
 sb:=fun x hx=>hx
 cl:=fun x hx hn=>absurd hx hn
theorem px.len{w h c k:Nat}{G T:List Nat}(hc:c<2^64)(D:px w h c k G T):G.length<=64:=by have:=length_le_of_subset (l1:=G) (l2:=List.range 64) D.nd fun x hx=>FC.mpr (gq hc (D.rc x hx).in);simpa using this
theorem ma{G:List Nat}{j:Nat}:(dY 0 G).testBit j=true<->j∈G:=by rw[me];simp
theorem px.done{w h c k:Nat}{G:List Nat}(D:px w h c k G []):cz w h c k (dY 0 G):=fun j=>by
 rw[ma];constructor
 ·exact D.rc j
 ·intro r
  induction r with
  |here _=>exact D.at_
  |step _ hn hc ih=>exact D.cl _ ih (by simp) _ hn hc
structure pN(w h c k x:Nat)(G T:List Nat)(ns:List Nat):Prop where
 nd:G.Nodup
 at_:k∈G
 rc:∀y∈G,Rch w h c k y
 sb:∀y∈T,y∈G
 xG:x∈G
 cl:∀y∈G,¬y∈T->y≠x->∀i∈bX w h y,c.testBit i=true->i∈G
 cx:∀i∈ns,c.testBit i=true->i∈G
theorem px.mid{w h c k x:Nat}{G T:List Nat}(D:px w h c k G (T++[x])):pN w h c k x G T [] where
 nd:=D.nd
 at_:=D.at_
 rc:=D.rc
 sb:=fun y hy=>D.sb y (Fc _ hy)
 xG:=D.sb x (by simp)
 cl:=fun y hy hn hne=>D.cl y hy (fun z=>(Ft.mp z).elim hn fun z=>hne (Fy.mp z))
 cx:=fun i hi=>by simp at hi
theorem pN.push{w h c k x i:Nat}{G T ns:List Nat}(D:pN w h c k x G T ns)(hi:c.testBit i=true)(hn:i∈bX w h x)(hG:¬i∈G):pN w h c k x (G++[i]) (T++[i]) (ns++[i]) where
 nd:=by rw[List.nodup_append];refine⟨D.nd,by simp,fun a ha b hb e=>?_⟩;rw[Fy]at hb;subst hb;subst e;exact hG ha
 at_:=Fc _ D.at_
 rc:=fun y hy=>by
  rcases Ft.mp hy with z|z
  ·exact D.rc y z
  ·rw[Fy]at z;subst z;exact .step (D.rc x D.xG) hn hi
 sb:=fun y hy=>by
  rcases Ft.mp hy with z|z
  ·exact Fc _ (D.sb y z)
  ·exact E4 _ z
 xG:=Fc _ D.xG
 cl:=fun y hy hT hne j hj hcj=>by
  rcases Ft.mp hy with z|z
  ·exact Fc _ (D.cl y z (fun q=>hT (Fc _ q)) hne j hj hcj)
  ·exact absurd (E4 _ z) hT
 cx:=fun j hj hcj=>by
  rcases Ft.mp hj with z|z
  ·exact Fc _ (D.cx j z hcj)
  ·exact E4 _ z
theorem pN.skip{w h c k x i:Nat}{G T ns:List Nat}(D:pN w h c k x G T ns)(hi:c.testBit i=true->i∈G):pN w h c k x G T (ns++[i]) where
 nd:=D.nd
 at_:=D.at_
 rc:=D.rc
 sb:=D.sb
 xG:=D.xG
 cl:=D.cl
 cx:=fun j hj hcj=>by
  rcases Ft.mp hj with z|z
  ·exact D.cx j z hcj
  ·rw[Fy]at z;subst z;exact hi hcj
theorem pN.done{w h c k x:Nat}{G T:List Nat}(D:pN w h c k x G T (bX w h x)):px w h c k G T where
 nd:=D.nd
 at_:=D.at_
 rc:=D.rc
 sb:=D.sb
 cl:=fun y hy hT i hi hc=>by
  by_cases e:y=x
  ·subst e;exact D.cx i hi hc
  ·exact D.cl y hy hT e i hi hc
end LM
namespace L2
open PySem PySem.Spec PyProof.Rows
def Cx2(o o':Obj):Prop:=∀vs,o.data=.fields vs->∃vs',o'.data=.fields vs'/\vs'[2]?=vs[2]?
theorem Cx2.refl(o:Obj):Cx2 o o:=fun vs e=>⟨vs,e,rfl⟩
def DKp(h h':Heap):Prop:=∀b o,h.get? b=some o->∃o',h'.get? b=some o'/\o'.dict=o.dict/\Cx2 o o'
theorem DKp.refl(h:Heap):DKp h h:=fun _ o e=>⟨o,e,rfl,.refl o⟩
theorem DKp.trans{h h1 h2:Heap}(a:DKp h h1)(b:DKp h1 h2):DKp h h2:=fun x o e=>by obtain⟨o1,e1,d1,c1⟩:=a x o e;obtain⟨o2,e2,d2,c2⟩:=b x o1 e1;refine⟨o2,e2,d2.trans d1,fun vs q=>?_⟩;obtain⟨v1,q1,z1⟩:=c1 vs q;obtain⟨v2,q2,z2⟩:=c2 v1 q1;exact⟨v2,q2,z2.trans z1⟩
theorem DKp.push(h:Heap)(o:Obj):DKp h (h.push o):=fun _ o' e=>⟨o',Ex _ e,rfl,.refl o'⟩
def CH(f:Obj->Obj):Prop:=∀o,(f o).dict=o.dict/\(f o).isFreed=o.isFreed/\Cx2 o (f o)
theorem DKp.update{f:Obj->Obj}(hf:CH f)(h:Heap)(a:Addr):DKp h (h.update a f):=fun b o e=>by
 by_cases z:a=b
 ·subst z;obtain⟨_,e2⟩:=Heap.get?_some_iff.mp e;exact⟨f o,FZ f e (by rw[(hf o).2.1];exact e2),(hf o).1,(hf o).2.2⟩
 ·exact⟨o,by rw[FT _ _ z];exact e,rfl,.refl o⟩
inductive bO{α:Type}:Sem α->Prop
 |pure (a:α):bO (.pure a)
 |raise (e:Value):bO (.raise e)
 |unsup (w:String):bO (.unsupported w)
 |rule {t:String} {k:Unit->Sem α}:(∀u,bO (k u))->bO (.rule t k)
 |load {a:Addr} {p:Option Value} {k:Obj->Sem α}:(∀o,bO (k o))->bO (.load a p k)
 |update {a:Addr} {p:Option Value} {f:Obj->Obj} {k:Unit->Sem α}:CH f->(∀u,bO (k u))->bO (.update a p f k)
 |alloc {o:Obj} {k:Addr->Sem α}:(∀a,bO (k a))->bO (.alloc o k)
 |point {l:List Value} {k:Unit->Sem α}:(∀u,bO (k u))->bO (.point l k)
 |register {a:Addr} {k:Unit->Sem α}:bO (.register a k)
 |stack {k:List (Code×Pos)->Sem α}:(∀l,bO (k l))->bO (.stack k)
theorem bO.wp{α:Type}{M:Model}{Γ:PySem.Ctx}{t:Sem α}(m:bO t):∀{Q:α->Pos->Shared->Prop}{E:Value->Pos->Shared->Prop}{p:Pos}{s:Shared}{h0:Heap},DKp h0 s.heap->Sem.wp M Γ t Q E p s->
  Sem.wp M Γ t (fun a p' s'=>Q a p' s'/\DKp h0 s'.heap) (fun e p' s'=>E e p' s'/\DKp h0 s'.heap) p s:=by
 induction m with
 |pure a=>intro Q E p s h0 d h;exact⟨h,d⟩
 |raise e=>intro Q E p s h0 d h;exact⟨h,d⟩
 |unsup w=>intro Q E p s h0 d h;exact h
 |rule _ ih=>intro Q E p s h0 d h;exact ih () d h
 |load _ ih=>intro Q E p s h0 d h;obtain⟨o,ho,h⟩:=h;exact⟨o,ho,ih o d h⟩
 |update sf _ ih=>intro Q E p s h0 d h;obtain⟨ha,h⟩:=h;exact⟨ha,ih () (d.trans (DKp.update sf _ _)) h⟩
 |alloc _ ih=>intro Q E p s h0 d h;exact ih _ (d.trans (DKp.push _ _)) h
 |point _ ih=>intro Q E p s h0 d h;exact ih () d h
 |register=>intro Q E p s h0 d h;exact h
 |stack _ ih=>intro Q E p s h0 d h;exact ih _ d h
theorem bO.any{α:Type}{M:Model}{A:Around}{t:Sem α}{Q:α->Shared->Prop}{E:Value->Shared->Prop}{s:Shared}(m:bO t)(h:wpAny M A t Q E s):wpAny M A t (fun a s'=>Q a s'/\DKp s.heap s'.heap) (fun e s'=>E e s'/\DKp s.heap s'.heap) s:=
 fun Γ p hΓ=>m.wp (DKp.refl _) (h Γ p hΓ)
theorem bO.bind{α β:Type}{t:Sem α}{f:α->Sem β}(m:bO t)(h:∀a,bO (f a)):bO (t>>= f):=by
 show bO (Sem.bind t f)
 induction m with
 |pure a=>exact h a
 |raise e=>exact .raise e
 |unsup w=>exact .unsup w
 |rule _ ih=>exact .rule ih
 |load _ ih=>exact .load ih
 |update sf _ ih=>exact .update sf ih
 |alloc _ ih=>exact .alloc ih
 |point _ ih=>exact .point ih
 |register=>exact .register
 |stack _ ih=>exact .stack ih
theorem tE{i:Nat}{x:Value}(h:i≠2):CH (Obj.mapFields (·.setIfInBounds i x)):=fun o=>by
 obtain⟨c,d,dt,s⟩:=o;cases dt
 case fields ws=>refine⟨rfl,rfl,fun vs e=>?_⟩;cases e;exact⟨_,rfl,by rw[Array.getElem?_setIfInBounds_ne h]⟩
 all_goals exact⟨rfl,rfl,.refl _⟩
theorem j4 (v : Value) (i : Nat) : bO (field v i) := by
  unfold field fieldsOf
  refine bO.bind ?_ fun vs => ?_
  · cases v <;> first
      | exact .unsup _
      | (refine bO.bind (.load fun o => .pure _) fun o => ?_
         split
         · exact .pure _
         · exact .unsup _)
  · split
    · exact .pure _
    · exact .unsup _
theorem jO (v : Value) (i : Nat) (x : Value) (h : i ≠ 2) : bO (setField v i x) := by
  unfold setField updateField
  cases v <;> first
    | exact .unsup _
    | (refine bO.bind (.load fun o => .pure _) fun o => ?_
       split
       · split
         · exact .update (tE h) fun _ => .pure _
         · exact .unsup _
       · exact .unsup _)
theorem gj(v:Value)(f:Option Addr):bO (setFlight v f):=by
 unfold setFlight;refine bO.bind (j4 _ _) fun tb=>?_;split
 ·exact jO _ _ _ (by decide)
 ·exact .pure _
theorem oR(ty:String)(vs:List Value):bO (newFields ty vs):=by
 unfold newFields newObj newObjAsIs;dsimp only;split
 ·exact bO.bind (.unsup _) fun _=>bO.bind (.alloc fun a=>.pure _) fun a=>.pure _
 ·exact bO.bind (.alloc fun a=>.pure _) fun a=>.pure _
theorem jZ:bO stack:=.stack fun l=>.pure _
theorem x6(a:Addr):bO (load a):=.load fun o=>.pure _
theorem uh(env:Env)(outer:List Env):bO (behindIsImport env outer):=by
 unfold behindIsImport
 repeat' first
  |exact .pure _
  |exact .unsup _
  |exact j4 _ _
  |split
  |refine bO.bind ?_ fun _=>?_
theorem uk:bO underTheClaimsCaller:=bO.bind jZ fun _=>.pure _
theorem x8(env:Env)(b:Bool)(l:List Env):bO (keptBack env b l):=by
 unfold keptBack
 repeat' first
  |exact .pure _
  |exact .unsup _
  |exact uk
  |split
  |refine bO.bind ?_ fun _=>?_
theorem oQ:∀l:List Env,bO (readyFrames l)
 | []=>.pure _
 |env::outer=>by
  have ih:=oQ outer;unfold readyFrames
  repeat' first
   |exact .pure _
   |exact .unsup _
   |exact x6 _
   |exact uh _ _
   |exact x8 _ _ _
   |exact ih
   |exact .update (fun o=>⟨rfl,by obtain⟨c,d,dt,s⟩:=o;cases dt<;>rfl,fun vs e=>⟨vs,e,rfl⟩⟩) fun _=>.pure _
   |split
   |refine bO.bind ?_ fun _=>?_
   |dsimp only
theorem rD(env:Env):bO (PySem.frameOf env):=by
 unfold PySem.frameOf frameEnvs;refine bO.bind (bO.bind jZ fun _=>.pure _) fun l=>bO.bind ?_ fun r=>?_
 ·generalize List.dropWhile _ l=es;cases es with
  |nil=>exact .pure _
  |cons e es=>exact bO.bind (oQ _) fun _=>.pure _
 ·split
  ·exact .pure _
  ·exact .unsup _
theorem vK(f:Addr)(b:Bool):bO (entryPlaceOf f b):=by
 unfold entryPlaceOf;refine bO.bind jZ fun l=>?_;split
 ·exact .pure _
 ·exact .pure _
theorem qd(v:Value)(env:Env):bO (noteFrame v env):=by
 unfold noteFrame EntryCells.newEntry
 repeat' first
  |exact .pure _
  |exact .unsup _
  |exact j4 _ _
  |exact jO _ _ _ (by decide)
  |exact rD _
  |exact vK _ _
  |exact oR _ _
  |split
  |refine bO.bind ?_ fun _=>?_
  |dsimp only
theorem kY(env:Env)(v:Value):bO (leaving env v):=bO.bind (qd _ _) fun _=>gj _ _
def CtN(h:Heap)(x:Addr):Prop:=∃o vs,h.get? x=some o/\o.data=.fields vs/\vs[2]?=some .none
theorem CtN.kp{h h':Heap}{x:Addr}(c:CtN h x)(k:DKp h h'):CtN h' x:=by obtain⟨o,vs,e,q,z⟩:=c;obtain⟨o',e',_,r⟩:=k x o e;obtain⟨vs',q',z'⟩:=r vs q;exact⟨o',vs',e',q',z'.trans z⟩
theorem cW.there{P:Program}{w:World}{H:Hp}{h:Heap}{a:Addr}:∀{o:HO},cW P w H h a o->∃ob,h.get? a=some ob
 | .lst _,⟨_,_,_,_,e⟩=>⟨_,e⟩
 | .tup _,⟨_,_,_,o,e,_⟩=>⟨o,e⟩
 | .dK _,⟨_,_,_,_,o,_,_,e,_⟩=>⟨o,e⟩
 | .dT _,⟨_,_,_,_,o,_,_,e,_⟩=>⟨o,e⟩
 | .set _ _,x=>let ⟨o,e,_⟩:=(show h.SetOf (intKind P w) a _ _ from x).objOf;⟨o,e⟩
 | .ins _ _ _,⟨_,_,_,e,_⟩=>⟨_,e⟩
 | .own _,⟨o,e⟩=>⟨o,e⟩
 | .xd _,⟨_,n,_⟩=>by obtain⟨o,e,_⟩:=qf n;exact⟨o,e⟩
 | .rng _ _,⟨_,_,_,e⟩=>⟨_,e⟩
 | .frz _ _,⟨e,_⟩=>⟨_,e⟩
 | .tbl _,e=>⟨_,e⟩
 | .met _ _,e=>⟨_,e⟩
 | .ext _,⟨_,⟨o,e⟩,_⟩=>⟨o,e⟩
section
variable{X:Cx}{pins:List (Addr×Obj)}{σ:St}{H:Hp}{s:Shared}
theorem Inv.untr(I:Inv X pins σ H s){b:Addr}(e:s.heap.get? b=none):H b=none:=by
 cases q:H b with
 |none=>rfl
 |some o=>obtain⟨ob,z⟩:=(I.hok b o q).there;rw[e]at z;cases z
theorem Inv.flown{h':Heap}{ch:List Addr}{t':Nat}(I:Inv X pins σ H s)
  (hch:∀b∈ch,X.s₀.heap.get? b=none/\H b=none/\b≠X.env.locals/\(∀x c,X.env.cells.lookup x=some c->c≠b)/\∀p∈X.pn++pins,p.1≠b)
  (keep:∀b o,b∉frs X.stack->b∉ch->s.heap.get? b=some o->h'.get? b=some o) (slot:∀b o,b∈frs X.stack->s.heap.get? b=some o->∃sl,h'.get? b=some {o with slots:=sl}):
  Inv X pins σ H {s with heap:=h',toks:=t'}:=by
 have any:∀b o,b∉ch->s.heap.get? b=some o->∃sl,h'.get? b=some {o with slots:=sl}:=fun b o hc e=>by
  by_cases hb:b∈frs X.stack
  ·exact slot b o hb e
  ·exact⟨o.slots,keep b o hb hc e⟩
 have nch:∀b o,X.s₀.heap.get? b=some o->b∉ch:=fun b o e hb=>by rw[(hch b hb).1]at e;cases e
 have nst:∀b o,X.s₀.heap.get? b=some o->b∉X.fs->b∉frs X.stack:=fun b o e hb z=>by
  rcases Fd.mp (I.stkSub b z)with q|q
  ·rw[q]at e;exact absurd (EB (EM e) I.ok.above) (F6 _)
  ·exact hb q
 have cellK:∀x c,X.env.cells.lookup x=some c->∀v,s.heap.IsCell c v->h'.IsCell c v:=fun x c e v ⟨o,ho,hd⟩=>by obtain⟨sl,q⟩:=any c o (fun z=>(hch c z).2.2.2.1 x c e rfl) ho;exact⟨_,q,hd⟩
 refine⟨I.ok,I.os,I.bare,⟨fun b o e n hb hx=>?_,fun b o e n hb hx=>?_,I.base.free,fun b o e hx=>?_,I.base.tups,I.base.frzs,I.base.tbls⟩,?_,fun x c e=>?_,I.free,I.freeC,fun p hp=>?_,fun b u e=>?_,I.len⟩
 ·exact keep b o (nst b o e hb) (nch b o e) (I.base.keep b o e n hb hx)
 ·obtain⟨sl,e1⟩:=I.base.slot b o e n hb hx;obtain⟨sl2,e2⟩:=any b _ (nch b o e) e1;exact⟨sl2,e2⟩
 ·obtain⟨o',e1⟩:=I.base.there b o e hx;obtain⟨sl,e2⟩:=any b o' (nch b o e) e1;exact⟨_,e2⟩
 ·obtain⟨m,⟨o,es,ep,ho,r⟩,hl⟩:=I.loc;obtain⟨sl,hL⟩:=any _ o (fun z=>(hch _ z).2.2.1 rfl) ho;refine⟨m,⟨_,es,ep,hL,r⟩,fun i x v e1 e2 e3=>?_⟩;obtain⟨u,r',l⟩:=hl i x v e1 e2 e3;refine⟨u,r',?_⟩;rcases l with l|⟨k,c,e,z⟩
  ·exact .inl l
  ·exact .inr ⟨k,c,e,cellK x c e _ z⟩
 ·obtain⟨v,z⟩:=I.cell x c e;exact⟨v,cellK x c e v z⟩
 ·obtain⟨e,n,ne,nf,d⟩:=I.pin p hp;refine⟨keep p.1 p.2 (fun z=>?_) (fun z=>(hch _ z).2.2.2.2 p hp rfl) e,n,ne,nf,d⟩;rcases Fd.mp (I.stkSub _ z)with q|q
  ·exact ne q
  ·exact nf q
 ·refine(I.hok b u e).stay (fun c v hc q=>?_) (fun _ q=>q) fun _ _ q=>q;have hcu:∃y,H c=some y:=by
   rcases hc with z|z
   ·rw[z];exact⟨u,e⟩
   ·exact⟨_,z⟩
  obtain⟨y,hy⟩:=hcu;refine keep c v (fun z=>?_) (fun z=>?_) q
  ·rw[I.stkFree c z]at hy;cases hy
  ·rw[(hch c z).2.1]at hy;cases hy
def Trc(h:Heap)(x T:Addr)(cls a0:Value):Prop:=
 ∃oe vs oT ts,h.get? x=some oe/\(oe.cls=cls/\vs[0]?=some a0)/\oe.data=.fields vs/\vs[1]?=some (.ref T)/\T≠x/\h.get? T=some oT/\oT.data=.fields ts/\ts[3]?=some .none
theorem Cu{x T:Addr}{cls a0:Value}(I:Inv X pins σ H s)(t:Trc s.heap x T cls a0):Heap.FlyingW (PySem.W.hideAll s.heap (frs X.stack++[x,T])) X.stack x cls a0 s.heap:=by obtain⟨oe,vs,oT,ts,a1,a2,a3,a4,a5,a6,a7,a8⟩:=t;refine⟨fun b o q=>PySem.W.of_hideAll _ q,PySem.W.hideAll_none _ (by simp),PySem.W.funFrames_hide I.stack fun env he a ha=>Fc _ (List.mem_filterMap.mpr ⟨env,he,ha⟩),oe,vs,T,oT,ts,a1,a2,a3,a4,PySem.W.hideAll_none _ (by simp),a5,a6,a7,a8⟩
noncomputable def CXe(P:Program)(w:World):CXT:=fun outer H s E e s'=>∃x C T H' a0,e=.ref x/\s'.os=s.os/\AllBare s'.gens/\Un (frs outer) [] H H' s.heap s'.heap/\HOk P w H' s'.heap/\
 s.heap.get? x=none/\s.heap.get? T=none/\H' x=none/\H' T=none/\Trc s'.heap x T (.ref C) a0/\CtN s'.heap x/\E (.ref C) none H'
theorem Inv.landed{x T:Addr}{h':Heap}{t':Nat}(I:Inv X pins σ H s)(n1:X.s₀.heap.get? x=none)(n2:X.s₀.heap.get? T=none)(u1:H x=none)(u2:H T=none)
  (g1:∀p∈X.pn++pins,p.1≠x) (g2:∀p∈X.pn++pins,p.1≠T) (c1:∀y c,X.env.cells.lookup y=some c->c≠x) (c2:∀y c,X.env.cells.lookup y=some c->c≠T) (l1:x≠X.env.locals) (l2:T≠X.env.locals)
  (st:(PySem.W.hideAll s.heap (frs X.stack++[x,T])).StaysIn h') (us:s.heap.UpToSlots h'):Inv X pins σ H {s with heap:=h',toks:=t'}:=by
 refine I.flown (ch:=[x,T]) (fun b hb=>?_) (fun b o hb hc e=>st b o (PySem.W.hideAll_get _ e fun z=>?_)) (fun b o hb e=>?_)
 ·rcases Fd.mp hb with q|q
  ·subst q;exact⟨n1,u1,l1,c1,g1⟩
  ·rw[Fy]at q;subst q;exact⟨n2,u2,l2,c2,g2⟩
 ·rcases Ft.mp z with q|q
  ·exact hb q
  ·exact hc q
 ·obtain⟨_,o',ho,hnf⟩:=I.stack.mem hb;rw[e]at ho;cases ho;exact us b o e hnf
theorem Inv.apart{x:Addr}(I:Inv X pins σ H s)(hex:X.ex=[])(n:s.heap.get? x=none):
  X.s₀.heap.get? x=none/\(∀p∈X.pn++pins,p.1≠x)/\(∀y c,X.env.cells.lookup y=some c->c≠x)/\x≠X.env.locals:=by
 refine⟨?_,fun p hp z=>?_,fun y c e z=>?_,fun z=>?_⟩
 ·cases q:X.s₀.heap.get? x with
  |none=>rfl
  |some o=>obtain⟨o',e⟩:=I.base.there x o q (by rw[hex];simp);rw[n]at e;cases e
 ·have:=(I.pin p hp).1;rw[z,n]at this;cases this
 ·obtain⟨v,o,ho,_⟩:=I.cell y c e;rw[z,n]at ho;cases ho
 ·obtain⟨m,⟨o,es,ep,ho,_⟩,_⟩:=I.loc;rw[<-z,n]at ho;cases ho
theorem nK{B h':Heap}{x:Addr}{cls a0:Value}{as:List Addr}(I:Inv X pins σ H s)(hex:X.ex=[])(eB:B=PySem.W.hideAll s.heap (frs X.stack++as))(has:∀b∈as,X.s₀.heap.get? b=none/\H b=none)
  (J:∀b∈frs X.stack,∃o,h'.get? b=some o/\∀vs,o.data≠ .fields vs) (t:h'.TracedW B x cls a0):∃T,Trc h' x T cls a0/\X.s₀.heap.get? T=none/\H T=none:=by
 obtain⟨oe,vs,T,oT,ts,a1,a2,a3,a4,a5,a6,a7,a8,a9⟩:=t;have hid:∀o,s.heap.get? T=some o->T∈as:=fun o e=>by
  by_cases hm:T∈frs X.stack++as
  ·rcases Ft.mp hm with q|q
   ·obtain⟨o',e',nf⟩:=J T q;rw[a7]at e';cases e';exact absurd a8 (nf ts)
   ·exact q
  ·rw[eB,PySem.W.hideAll_get _ e hm]at a5;cases a5
 refine⟨T,⟨oe,vs,oT,ts,a1,a2,a3,a4,a6,a7,a8,a9⟩,?_,?_⟩
 ·cases q:X.s₀.heap.get? T with
  |none=>rfl
  |some o=>obtain⟨o',e⟩:=I.base.there T o q (by rw[hex];simp);rw[(has T (hid o' e)).1]at q;cases q
 ·cases q:H T with
  |none=>rfl
  |some o=>obtain⟨o',e⟩:=(I.hok T o q).there;rw[(has T (hid o' e)).2]at q;cases q
end
section
variable{P:Program}{w:World}{K:Frag}{mg:Str->Option Value}{base:Heap}{N:List Str}{qual:Str}{scope:Scope}{f:Addr}{cd:Value}{A:Around}{outer:List Env}{s:Shared}{H:Hp}{E:XK}
 {pins:List (Addr×Obj)} {σ:St}
theorem wo{e C:Addr}{vs:List Value}{h':Heap}{H1:Hp}{s1:Shared}(I:Inv (iz (CXe P w) P w K mg base N qual scope f cd A outer s H E) pins σ H1 s1)(hx:Heap.MadeExcOf s1.heap h' e (.ref C) vs)(ee:E (.ref C) none H1):
  (iz (CXe P w) P w K mg base N qual scope f cd A outer s H E).xe (.ref e) {s1 with heap:=h'}:=by
 obtain⟨p1,p2,p3,p4⟩:=I.apart rfl hx.new
 refine E6 ((kY _ _).any (wpAny_leaves_madeW (Q:=fun _ s4=>∃h'' t,s4={s1 with heap:=h''}/\Heap.FlyingW (PySem.W.hideAll s1.heap (frs (envOfC qual scope s.heap.objs.size f cd::outer)++[])) outer e (.ref C) (.ref t) h''/\Heap.UpToSlots h' h'')
  (base:=PySem.W.hideAll s1.heap (frs (envOfC qual scope s.heap.objs.size f cd::outer)++[])) (h:=s1.heap) (outer:=outer) I.ok.frames rfl (fun b o q=>PySem.W.of_hideAll _ q) (PySem.W.funFrames_hide I.stack fun env he a ha=>Fc _ (List.mem_filterMap.mpr ⟨env,he,ha⟩)) hx fun h'' t fl _ _ us=>⟨h'',t,rfl,fl,us⟩)) (fun _ s4 z=>?_) fun _ _ z=>z.1
 obtain⟨⟨h'',t,rfl,fl,us⟩,dk⟩:=z;obtain⟨tt,ht,_,_⟩:=hx.there;have J:Inv (iz (CXe P w) P w K mg base N qual scope f cd A outer s H E) pins σ H1 {s1 with heap:=h'',toks:=s1.toks}:=I.flown (ch:=[]) (fun _ z=>nomatch z)
  (fun b o hb _ e'=>fl.1 b o (PySem.W.hideAll_get _ e' fun z=>by
   rcases Ft.mp z with q|q
   ·exact hb q
   ·exact absurd q (by simp))) (fun b o hb e'=>by
  obtain⟨_,o',ho,hnf⟩:=I.stack.mem hb;rw[e']at ho;cases ho
  exact us b o (hx.keeps b o e') hnf)
 obtain⟨T',t',q1,q2⟩:=nK I rfl rfl (as:=[]) (fun _ z=>nomatch z) (fun b hb=>by obtain⟨_,o,ho,nf⟩:=J.stack.mem hb;exact⟨o,ho,nf⟩) fl.2.2.2;exact⟨e,C,T',H1,_,rfl,J.os,J.bare,J.base,J.hok,p1,q1,I.untr hx.new,q2,t',CtN.kp ⟨_,_,ht,rfl,rfl⟩ dk,ee⟩
end
structure DfE(P:Program)(w:World)(K:Frag)(mg:Str->Option Value)(base:Heap)(k:Nat)(x:Str)(ps:List Str)(sp:Sp):Prop where
 ex:∃f fd,lV P w K mg base (CXe P w) k f fd ps sp/\Binds K fd ps []/\mg x=some (.ref f)/\keepIn K (.ref f)=true
theorem Tx.dfE{P:Program}{w:World}{K:Frag}{mg:Str->Option Value}{base:Heap}{x:Str}{st:Stmt}{N ps:List Str}{k:Nat}{sp:Sp}(T:Tx K mg x st ps)(S:ay N ps (ao st))
  (len:∀vs H Q E,sp vs H Q E->vs.length=ps.length)
  (hbody:∀(f:Addr)(cdv:Value)(A:Around)(outer:List Env)(s:Shared)(H:Hp)(vs:List V)(Q:VK)(E:XK),eA k (A.deeper (envOfC x (ao st) s.heap.objs.size f cdv))->sp vs H Q E->
   ∃t,PSs (iz (CXe P w) P w K mg base N x (ao st) f cdv A outer s H E) (dq st) t/\t {nx:=fun _ H'=>Q .non H',rt:=Q} (start N vs) H):DfE P w K mg base (k+1) x ps sp:=by
 obtain⟨f,fd,F,b,hm⟩:=T.ex;obtain⟨oc,od,kV,doc,pm,an,cdv,ct,osl,rfl,lk,hcd⟩:=id F.ex;exact⟨f,_,zK lk hcd S len fun A outer s H vs Q E hr h=>hbody f cdv A outer s H vs Q E hr h,b,hm,F.kp⟩
abbrev vErr:List Value:=[.type "ValueError",.type "Exception",.type "BaseException",.type "object"]
structure lW(K:Frag)(mg:Str->Option Value)(x:Str)(C:Addr):Prop where
 mg:mg x=some (.ref C)
 ok:PySem.W.excIn K C vErr "ValueError.__new__"=true
theorem yo{K:Frag}{h:Heap}{C:Addr}(X:K.In h)(z:PySem.W.excIn K C vErr "ValueError.__new__"=true):
  ∃tl N nm qn bs hd sn sub ab col dd k0 k1 k2 k3 k5 mN,h.get? C=some (excClassObj nm qn C N bs tl hd sn sub ab col dd k0 k1 k2 k3 k5 "ValueError.__new__")/\h.Ns N mN/\mN "__init__"=none/\OwnTail h vErr tl/\∀b r,mroIn K C b=some r->(Value.ref C::tl).contains b=r:=by
 unfold PySem.W.excIn at z;split at z
 case h_2=>cases z
 case h_1 dd cd sl ho=>
  split at z
  case h_2=>cases z
  case h_1 C' tl k0 k1 k2 k3 n k5 hm hs=>
   rw[EL,EL,EL,EL,EL,beq_iff_eq,beq_iff_eq,beq_iff_eq]at z;obtain⟨⟨⟨⟨⟨z1,z2⟩,z3⟩,z4⟩,z5⟩,z6⟩:=z;subst z1;subst z2;have z3':cd.hasDel=false:=(by simpa using z3);obtain⟨nm,bs,mro,ns,qn,hd,sn,sub,ab,col,del⟩:=cd;dsimp only at hm z3' z5 z6;subst hm;subst z3';obtain rfl:sl= #[k0,k1,k2,k3,some (.builtin "ValueError.__new__"),k5]:=by rw[<-hs]
   exact⟨tl,ns,nm,qn,bs,hd,sn,sub,ab,col,dd,k0,k1,k2,k3,k5,_,X _ _ ho,.of_isNs (PySem.W.isNs_of_in X z5),PySem.W.nsMap_none_of_in X z5 z6,PySem.W.tail_of_in X z4,fun b r hr=>by
    unfold mroIn PySem.W.clsIn at hr;rw[ho]at hr
    simpa using hr⟩
section
variable{X:Cx}{pins:List (Addr×Obj)}{σ:St}{H:Hp}{s:Shared}
def tRz(t:TA)(W:Hp->Prop):TS:=fun _ σ H=>t σ H fun vs H1=>vs.length<=sizeLine/\W H1
theorem tL{c:Str}{C:Addr}{e:Expr}{es:List Expr}{t:TA}{np cpos pos:Pos}{W:Hp->Prop}(Z:lW X.K X.mg c C)(hc:X.calm=true)(ha:PA X (e::es) t)
  (hw:∀pins σ H1 s1 h' x vs,Inv X pins σ H1 s1->Heap.MadeExcOf s1.heap h' x (.ref C) vs->W H1->X.xe (.ref x) {s1 with heap:=h'})
  (hg:Gl X c:=by rfl) (hd:(c==("__debug__":Str))=false:=by decide) (he:starEach (e::es) X.env=(false,eval e X.env)::starEach es X.env:=by rfl) (hpl:(backTo cpos (starEach es X.env)).any (·.1)=false:=by rfl):
  PS X (.Raise (some (.Call (.Name c np) (e::es) [] cpos)) none pos) (tRz t W):=by
 intro pins s σ H D I h;obtain⟨tl,N,nm,qn,bs,hdt,sn,sub,ab,col,dd,k0,k1,k2,k3,k5,mN,hC,hN,hni,T,_⟩:=yo I.ok.mod.kin Z.ok;refine wpAny_Raise_call_subT (C:=C) (nm:=nm) (q:=qn) (N:=N) (bs:=bs) (bm:=tl) (hdct:=hdt) (sn:=sn) (sub:=sub) (ab:=ab) (col:=col) (dd:=dd) (k0:=k0) (k1:=k1) (k2:=k2) (k3:=k3) (k5:=k5)
  PySem.F.excBase_ValueError (mN:=mN) (T.hasType rfl) (I.ok.hd hc) (by rw[he];show(false||(backTo cpos (starEach es X.env)).any (·.1))=false;rw[hpl];rfl) hni (kZ I hg Z.mg ⟨rfl,?_⟩ hd)
 have ha':=ha cpos pins s σ H _ I h;rw[he]at ha' ⊢;refine Calls.evalArgs_plain (thn ha' fun us s1 ⟨vs,H1,I1,r1,hl,q⟩=>⟨rfl,by rw[<-r1.length];exact hl,I1.bk _ _ hC,hN.keeps I1.bk,T.keeps I1.bk,fun h' x hx=>?_⟩);exact hw pins σ H1 s1 h' x us I1 hx q
def tCE(sp:Sp)(E:XK)(t:TA):TE:=fun σ H Q=>t σ H fun vs H1=>sp vs H1 Q E
end
noncomputable abbrev Cx.marked(X:Cx)(x:Addr):Cx:={X with A:=X.A.mark (some (.ref x)),calm:=false,xe:=fun _ _=>False}
section
variable{X:Cx}{pins:List (Addr×Obj)}{σ:St}{H:Hp}{s:Shared}{x:Addr}
theorem Inv.marked(I:Inv X pins σ H s)(x:Addr):Inv (X.marked x) pins σ H s:=
 ⟨⟨I.ok.mod,I.ok.kind,I.ok.glob,I.ok.blt,I.ok.above,I.ok.inj,I.ok.has,I.ok.cab,(fun z=>by cases z),I.ok.frames,I.ok.stk,I.ok.exf,I.ok.bs,I.ok.bsz,I.ok.noex,I.ok.exfs,I.ok.funs,I.ok.frf⟩,I.os,I.bare,I.base,I.loc,I.cell,I.free,I.freeC,I.pin,I.hok,I.len⟩
theorem Inv.unmarked(ok:X.Ok)(I:Inv (X.marked x) pins σ H s):Inv X pins σ H s:=⟨ok,I.os,I.bare,I.base,I.loc,I.cell,I.free,I.freeC,I.pin,I.hok,I.len⟩
theorem SP.unmarked{D:Ends}{f:Flow}{s':Shared}(ok:X.Ok)(h:SP (X.marked x) pins D f s'):SP X pins D f s':=by
 cases f with
 |next=>obtain⟨σ',H',I,q⟩:=h;exact⟨σ',H',I.unmarked ok,q⟩
 |brk=>obtain⟨σ',H',I,q⟩:=h;exact⟨σ',H',I.unmarked ok,q⟩
 |cont=>obtain⟨σ',H',I,q⟩:=h;exact⟨σ',H',I.unmarked ok,q⟩
 |ret u=>obtain⟨v,σ',H',I,r,q⟩:=h;exact⟨v,σ',H',I.unmarked ok,r,q⟩
end
theorem ph{M:Model}{A:Around}{E:Value->Shared->Prop}{nm nm' q q':Str}{C C' N N':Addr}{bs bs' tl tl':List Value}{hd hd':Bool}{sn sn':List Str}{sub sub':List Value}{ab ab':Bool}{col col':Option Bool}{dd dd':Option Addr}
  {k0 k1 k2 k3 k5 j0 j1 j2 j3 j5:Option Value} {i i':String} {s:Shared} {x:Addr} {oe:Obj} {Q:Bool->Shared->Prop} {r:Bool}
  (hC:s.heap.get? C=some (excClassObj nm q C N bs tl hd sn sub ab col dd k0 k1 k2 k3 k5 i)) (hC':s.heap.get? C'=some (excClassObj nm' q' C' N' bs' tl' hd' sn' sub' ab' col' dd' j0 j1 j2 j3 j5 i')) (he:s.heap.get? x=some oe) (hcls:oe.cls=.ref C)
  (hb:tl'.contains (.type "BaseException")=true) (hr:(Value.ref C::tl).contains (.ref C')=r) (hq:Q r s):wpAny M A (excMatches (.ref x) (.ref C')) Q E s:=by
 obtain⟨h,g,d,t,os⟩:=s;have hcB:(Value.ref C'::tl').contains (.type "BaseException")=true:=by rw[List.contains_cons,hb,Bool.or_true]
 have f:=tc_notTuple;unfold excMatches
 repeat (first|(with_reducible refine Ff he ?_;rw[hcls])|with_reducible refine Ff hC' ?_|(with_reducible refine wpAny_isSubtype_exc hC' ?_;rw[hcB])|(with_reducible refine wpAny_isSubtype_exc hC ?_;rw[hr])|wp_step)
 cases r<;>(wp_walk;exact hq)
structure sk(K:Frag)(C:Addr):Prop where
 ga:findIn K (.ref C) "__getattribute__"=some (some (.builtin "BaseException.__getattribute__"))
 gt:findIn K (.ref C) "__getattr__"=some none
 cl:findIn K (.ref C) "__class__"=some (some (.builtin "object.__class__"))
 be:mroIn K C (.type "BaseException")=some true
 ob:mroIn K C (.type "object")=some true
section
variable{prog:Program}{w:World}{A:Around}{E:Value->Shared->Prop}{h:Heap}{g:Array GenState}{d:Drawn}{t:Nat}{os:OsState}{K:Frag}{a C:Addr}{o:Obj}
theorem yw{R:Result->Shared->Prop}(X:K.In h)(Z:sk K C)(hx:h.get? a=some o)(hc:o.cls=.ref C)(hq:R (.ok (.ret (.ref C))) ⟨h,g,d,t,os⟩):
  codeAny (model prog w) A (.call (.builtin "getset_descriptor.__get__") ⟨[.builtin "object.__class__",.ref a,.ref C],[]⟩) R ⟨h,g,d,t,os⟩:=by
 have z5:(⟨h,g,d,t,os⟩:Shared).TypeIs (.builtin "object.__class__") "getset_descriptor":=PySem.F.typeOf_object_class;have S2:PySem.W.Looks (model prog w) h (isSubtype (.ref C) (.type (".".intercalate ("object.__class__".cutAt '.').dropLast))) true:=by rw[PySem.F.owner_object_class];exact PySem.W.looks_mroIn X Z.ob
 refine FO PySem.F.slot_gs_get.plain PySem.F.entry_gs_get (PySem.F.slot_gs_get.check _ _ _ _ _ _ _ _ z5 (PySem.F.args_gs_get _ _ _) ?_)
 repeat (any_goals (first|assumption|(with_reducible refine Ff hx ?_;rw[hc])|with_reducible refine S2.at ?_|wp_step))
 refine⟨Code.quiet_builtin _ (by decide+kernel),codeAny_builtin PySem.F.entry_object_class ?_⟩
 repeat (any_goals (first|assumption|(with_reducible refine Ff hx ?_;rw[hc])|wp_step))
theorem uV{tk:Tok}{Q:PySem.Fin->Shared->Prop}(X:K.In h)(Z:sk K C)(hx:h.get? a=some o)(hc:o.cls=.ref C)(hq:Q (.done (.ret (.ref C))) ⟨h,g,d,t,os⟩):
  wpAny (model prog w) A (Builtin.«object.__getattribute__» ⟨[.ref a,.str "__class__" tk],[]⟩) Q E ⟨h,g,d,t,os⟩:=by
 have z5:(⟨h,g,d,t,os⟩:Shared).TypeIs (.builtin "object.__class__") "getset_descriptor":=PySem.F.typeOf_object_class;have L3:=PySem.W.looks_findIn (M:=model prog w) X Z.cl;have f5:=PySem.F.typeOf_object_class;have f6:=PySem.F.slot_gs_get.lookup;have f7:=PySem.F.slot_gs_set.lookup
 repeat (any_goals (first|assumption|(with_reducible refine Ff hx ?_;rw[hc])|with_reducible refine L3.at ?_|wp_step))
 refine yw X Z hx hc ?_
 repeat (any_goals (first|assumption|wp_step))
theorem uW{M:Model}{v:Value}{Q:Unit->Shared->Prop}(X:K.In h)(Z:sk K C)(hx:h.get? a=some o)(hc:o.cls=.ref C)(hq:Q () ⟨h,g,d,t,os⟩):wpAny M A (checkBuiltinCall "BaseException.__getattribute__" ⟨[.ref a,v],[]⟩) Q E ⟨h,g,d,t,os⟩:=by
 have k1:builtinKind "BaseException.__getattribute__"=some .slot:=by decide+kernel
 have k2:splitId "BaseException.__getattribute__"=some ("BaseException","__getattribute__"):=by decide+kernel
 have S1:=PySem.W.looks_mroIn (M:=M) X Z.be;have k3:=PySem.F.args_bexc_ga (.ref a) v;simp only[checkBuiltinCall,k1,k2];refine Eu ?_;unfold isInstance
 repeat (first|(with_reducible refine Ff hx ?_;rw[hc])|with_reducible refine S1.at ?_|wp_step)
 exact hq
theorem xq{Q:Option Value->Shared->Prop}(X:K.In h)(Z:sk K C)(hx:h.get? a=some o)(hc:o.cls=.ref C)(hq:Q (some (.ref C)) ⟨h,g,d,t+1,os⟩):wpAny (model prog w) A (getAttr? (.ref a) "__class__") Q E ⟨h,g,d,t,os⟩:=by
 have L1:=PySem.W.looks_findIn (M:=model prog w) X Z.ga;have L2:=PySem.W.looks_findIn (M:=model prog w) X Z.gt;have y0:(false&&onTheHeap (Value.builtin "BaseException.__getattribute__"))=false:=rfl;have y2:(Value.builtin "BaseException.__getattribute__"==Value.builtin "object.__getattribute__")=false:=by decide+kernel
 have y1:(onTheHeap (Value.ref C)&&Value.builtin "BaseException.__getattribute__"==Value.builtin "object.__getattribute__")=false:=by rw[y2];rfl
 have f5:=PySem.F.attrBase_ValueError.ga.bind (.ref a);unfold getAttr? getAttrBy?
 repeat (any_goals (first|assumption|(with_reducible refine Ff hx ?_;rw[hc])|with_reducible refine L1.at ?_|with_reducible refine L2.at ?_|wp_step))
 refine FO PySem.F.attrBase_ValueError.ga.plain PySem.F.entry_bexc_ga (uW X Z hx hc (uV X Z hx hc ?_))
 repeat (any_goals (first|assumption|wp_step))
end
theorem uw{K:Frag}{x C:Addr}(Z:sk K C):PySem.W.KitX K (.ref x) (.ref C) (fun h=>∃o,h.get? x=some o/\o.cls=.ref C) where
 ty:=fun _ _ _ ⟨o,e,c⟩=>c▸(PySem.W.Looks.ld e).andThen .now
 it:=fun _ _ X _=>by
  have q:=Z.ob;unfold mroIn at q;obtain⟨cd,hc,_⟩:=Option.bind_eq_some_iff.mp q;unfold PySem.W.clsIn at hc;split at hc
  case h_2=>cases hc
  case h_1 ho=>intro A' Q' E' s' k q';unfold isType loadHead;exact Eu (wpAny_loadPart (k _ _ (X _ _ ho)) (EF q'))
 ne:=fun h tp dd its n sl X htp=>by
  have q:=Z.ob;unfold mroIn at q;obtain⟨cd,hc,_⟩:=Option.bind_eq_some_iff.mp q;refine Bool.eq_false_iff.mpr fun z=>?_;obtain rfl:C=tp:=Value.ref.inj (beq_iff_eq.mp z);unfold PySem.W.clsIn at hc;split at hc
  case h_2=>cases hc
  case h_1 ho=>have y:=(X _ _ ho).symm.trans htp;cases y
 ca:=fun {_ _ _ _ _ s} X ⟨o,e,c⟩ k=>by obtain⟨h,g,d,t,os⟩:=s;exact xq X Z e c k
section
variable{X:Cx}{pins:List (Addr×Obj)}{σ:St}{H:Hp}{s:Shared}
theorem Inv.nameGone{h':Heap}{n:Str}{i:Nat}{v:Option Value}{m:Str->Option Value}{t':Nat}(I:Inv X pins σ H s)(hN:X.N.Nodup)(hi:X.N[i]?=some n)
  (hm:∀(i:Nat)(x:Str)(v:V),X.N[i]?=some x->σ[i]?=some (some v)->Vis X.env.scope x->∃u,RelV v u/\Look X.env s.heap m x u)
  (hn:h'.Ns X.env.locals fun x=>if x=n then v else m x) (sb:Heap.SameBut X.env.locals s.heap h'):Inv X pins (σ.set i none) H {s with heap:=h',toks:=t'}:=by
 have k:∀b o,b≠X.env.locals->s.heap.get? b=some o->h'.get? b=some o:=fun b o hb e=>(sb.2 b hb).trans e;have nl:∀b o,X.s₀.heap.get? b=some o->b≠X.env.locals:=fun b o e z=>by rw[z]at e;exact absurd (EB (EM e) I.ok.above) (F6 _)
 have cellK:∀x c,X.env.cells.lookup x=some c->∀v,s.heap.IsCell c v->h'.IsCell c v:=fun x c e v ⟨o,ho,hd⟩=>⟨o,k c o (I.cne x c e) ho,hd⟩;refine⟨I.ok,I.os,I.bare,⟨fun b o e n' hb hx=>?_,fun b o e n' hb hx=>?_,I.base.free,fun b o e hx=>?_,I.base.tups,I.base.frzs,I.base.tbls⟩,⟨_,hn,fun j x v' e1 e2 e3=>?_⟩,fun x c e=>?_,I.free,I.freeC,fun p hp=>?_,fun b u e=>?_,?_⟩
 ·exact k b o (nl b o e) (I.base.keep b o e n' hb hx)
 ·obtain⟨sl,q⟩:=I.base.slot b o e n' hb hx;exact⟨sl,k b _ (nl b o e) q⟩
 ·obtain⟨o',q⟩:=I.base.there b o e hx;exact⟨o',k b o' (nl b o e) q⟩
 ·have hji:j≠i:=fun z=>by
   subst z
   rw[List.getElem?_set_self (by
    rw[I.len]
    exact(ED.mp e1).1)]at e2
   cases e2
  rw[List.getElem?_set_ne (Gj hji)]at e2;obtain⟨u,r,l⟩:=hm j x v' e1 e2 e3;have hxn:x≠n:=fun z=>hji (oN hN e1 (by rw[z];exact hi));refine⟨u,r,?_⟩;rcases l with⟨q1,q2⟩|⟨q,c,e,z⟩
  ·exact .inl ⟨q1,by show(if x=n then v else m x)=some u;rw[Fb hxn];exact q2⟩
  ·exact .inr ⟨q,c,e,cellK x c e _ z⟩
 ·obtain⟨v',z⟩:=I.cell x c e;exact⟨v',cellK x c e v' z⟩
 ·obtain⟨e,a2,ne,a3⟩:=I.pin p hp;exact⟨k p.1 p.2 ne e,a2,ne,a3⟩
 ·refine(I.hok b u e).stay (fun c v' hc q=>k c v' (fun z=>?_) q) (fun _ q=>q) fun _ _ q=>q;subst z;rcases hc with z|z
  ·rw[<-z,I.free]at e;cases e
  ·rw[I.free]at z;cases z
 ·rw[List.length_set];exact I.len
noncomputable def Ends.gone(D:Ends)(i:Nat):Ends:={D with nx:=fun σ H=>D.nx (σ.set i none) H,bk:=fun σ H=>D.bk (σ.set i none) H,ct:=fun σ H=>D.ct (σ.set i none) H}
theorem Bc{D:Ends}{f:Flow}{i:Nat}{n:Str}{pos:Pos}{E:Value->Shared->Prop}(hN:X.N.Nodup)(hi:X.N[i]?=some n)(hl:X.env.kindOf n=some .local)(hk:X.env.scope.kind=.function)(h:SP X pins (D.gone i) f s):
  wpAny (model X.prog X.w) X.A (do bindName X.env n .none;unbindBehindTheSuite X.env n pos) (fun _ s'=>SP X pins D f s') E s:=by
 have go:∀{σ':St}{H':Hp}{R:Shared->Prop},Inv X pins σ' H' s->(∀s',Inv X pins (σ'.set i none) H' s'->R s')->wpAny (model X.prog X.w) X.A (do bindName X.env n .none;unbindBehindTheSuite X.env n pos) (fun _ s'=>R s') E s:=fun {σ' H' R} J q=>by obtain⟨m,hn,hm⟩:=id J.loc;refine wpAny_nameGoes_keeps hl hn (by rw[hk];rfl) fun h' v hn' sb=>q _ (J.nameGone hN hi hm hn' sb)
 cases f with
 |next=>obtain⟨σ',H',J,q⟩:=h;exact go J fun s' J'=>⟨_,H',J',q⟩
 |brk=>obtain⟨σ',H',J,q⟩:=h;exact go J fun s' J'=>⟨_,H',J',q⟩
 |cont=>obtain⟨σ',H',J,q⟩:=h;exact go J fun s' J'=>⟨_,H',J',q⟩
 |ret u=>obtain⟨v,σ',H',J,r,q⟩:=h;exact go J fun s' J'=>⟨v,_,H',J',r,q⟩
end
abbrev Bd(n:Nat)(i:Int):Prop:=Builtin.Int.intBits i<=n
theorem Bd.of{n:Nat}{i:Int}(h:i.natAbs<2^n):Bd n i:=intBits_le_iff.mpr h
theorem Bd.lt{n:Nat}{i:Int}(h:Bd n i):i.natAbs<2^n:=intBits_le_iff.mp h
theorem Bd.mono{m n:Nat}{i:Int}(h:Bd m i)(z:m<=n):Bd n i:=EX h z
theorem Bd.le{n:Nat}{i j:Int}(h:Bd n j)(z:i.natAbs<=j.natAbs):Bd n i:=intBits_le_of_natAbs z h
theorem Bd.mul{m n:Nat}{i j:Int}(h:Bd m i)(z:Bd n j):Bd (m+n) (i*j):=intBits_mul_le h z
theorem Bd.neg{m:Nat}{i:Int}(h:Bd m i):Bd m (-i):=intBits_neg_le h
theorem Bd.log2{n:Nat}{i:Int}(h:Bd n i)(z:n<9000):i.natAbs.log2<9000:=by
 by_cases e:i.natAbs=0
 ·rw[e];decide
 ·rw[Nat.log2_lt e];exact EB h.lt (EN (by decide) (FL z))
section
variable{X:Cx}
theorem qU:OpR X (binaryOp .Mult) (rI (fun i j=>Bd 20000 i/\Bd 20000 j) fun i j=>.int (i*j)):=opI fun _ _ _ _ _ _ _ hc q=>mul_int q (IntMulOk.of_le hc.1 hc.2 (by decide))
theorem qa:OpR X (binaryOp .FloorDiv) (rI (fun _ j=>j≠0/\Bd 8999 j) fun i j=>.int (i.fdiv j)):=opI fun i j _ _ _ _ _ hc q=>floordiv_int hc.1 q (.inl (PyProof.noPylong_of_log2 (Bd.log2 hc.2 (by decide))))
end
theorem uF(a b:Int):Int.gcd b (a.fmod b)=Int.gcd a b:=by
 have e:=Int.mul_fdiv_add_fmod a b;apply Nat.dvd_antisymm
 ·have h1:=Int.gcd_dvd_left b (a.fmod b);have h2:=Int.gcd_dvd_right b (a.fmod b);refine Int.dvd_gcd ?_ h1;have:=Int.dvd_add (Int.dvd_mul_of_dvd_left (c:=a.fdiv b) h1) h2;rwa[e]at this
 ·have h1:=Int.gcd_dvd_left a b;have h2:=Int.gcd_dvd_right a b;refine Int.dvd_gcd h2 ?_;have e2:a.fmod b=a-b*a.fdiv b:=by omega
  rw[e2];exact Int.dvd_sub h1 (Int.dvd_mul_of_dvd_left h2)
theorem uG(a:Int){b:Int}(h:b≠0):(a.fmod b).natAbs<b.natAbs:=by
 rcases Int.lt_or_gt_of_ne h with z|z
 ·have e:=Int.neg_fmod_neg a b;have h1:=Int.fmod_lt_of_pos (-a) (show 0< -b by omega);have h2:=Int.fmod_nonneg_of_pos (-a) (show 0< -b by omega);omega
 ·have h1:=Int.fmod_lt_of_pos a z;have h2:=Int.fmod_nonneg_of_pos a z;omega
theorem gcd_zero(a:Int):(if a<0 then-a else a)=(Int.gcd a 0:Int):=by rw[Int.gcd_zero_right];split<;>omega
noncomputable def frT(t b:Int):Int:=t / (Int.gcd t b:Int)
noncomputable def frB(t b:Int):Int:=b / (Int.gcd t b:Int)
section
variable{t b p q:Int}
theorem Bh(t b:Int):frT t b*(Int.gcd t b:Int)=t:=Int.ediv_mul_cancel (Int.gcd_dvd_left t b)
theorem Bk(t b:Int):frB t b*(Int.gcd t b:Int)=b:=Int.ediv_mul_cancel (Int.gcd_dvd_right t b)
theorem jk(h:0<b):(0:Int)<(Int.gcd t b:Int):=by have:=Int.gcd_pos_of_ne_zero_right t (b:=b) (by omega);omega
theorem rV(h:0<b):0<frB t b:=by
 have e:=Bk t b;have g:=jk (t:=t) h;rcases Int.lt_trichotomy (frB t b) 0 with z|z|z
 ·have:=Int.mul_neg_of_neg_of_pos z g;omega
 ·rw[z]at e;omega
 ·exact z
theorem vS(h:0<b):Int.gcd (frT t b) (frB t b)=1:=by
 have g:=jk (t:=t) h;have e1:=congrArg Int.natAbs (Bh t b);have e2:=congrArg Int.natAbs (Bk t b);rw[Int.natAbs_mul,Ga]at e1 e2;have e3:Int.gcd t b=Nat.gcd (frT t b).natAbs (frB t b).natAbs*Int.gcd t b:=by
  conv=>lhs;unfold Int.gcd
  rw[<-e1,<-e2,Nat.gcd_mul_right]
 have:Nat.gcd (frT t b).natAbs (frB t b).natAbs=1:=by
  have g':0<Int.gcd t b:=by omega
  have:=Nat.eq_of_mul_eq_mul_right g' (show Nat.gcd (frT t b).natAbs (frB t b).natAbs*Int.gcd t b=1*Int.gcd t b by omega);exact this
 exact this
theorem k7(t b:Int):frT t b*b=frB t b*t:=by
 have e1:=Bh t b;have e2:=Bk t b;have a1:frT t b*b=frT t b*(frB t b*(Int.gcd t b:Int)):=by rw[e2]
 have a2:frB t b*t=frB t b*(frT t b*(Int.gcd t b:Int)):=by rw[e1]
 rw[a1,a2];exact Int.mul_left_comm _ _ _
theorem uI{p q p' q':Int}(h1:Int.gcd p q=1)(h2:Int.gcd p' q'=1)(hq:0<q)(hq':0<q')(e:p*q'=q*p'):p=p'/\q=q':=by
 have en:p.natAbs*q'.natAbs=q.natAbs*p'.natAbs:=by rw[<-Int.natAbs_mul,e,Int.natAbs_mul]
 have c1:Nat.Coprime p.natAbs q.natAbs:=h1;have c2:Nat.Coprime p'.natAbs q'.natAbs:=h2;have d1:q.natAbs∣q'.natAbs:=c1.symm.dvd_of_dvd_mul_left (by rw[en];exact Nat.dvd_mul_right _ _);have d2:q'.natAbs∣q.natAbs:=c2.symm.dvd_of_dvd_mul_left (by rw[Nat.mul_comm,<-en];exact Nat.dvd_mul_left _ _);have eq:=Nat.dvd_antisymm d1 d2;have eq':q=q':=by omega
 subst eq';refine⟨?_,rfl⟩;rw[Int.mul_comm]at e;exact Int.eq_of_mul_eq_mul_left (by omega) e
theorem Bg(hb:0<b)(hq:0<q)(h:Int.gcd p q=1)(e:p*b=q*t):p=frT t b/\q=frB t b:=by refine uI h (vS hb) hq (rV hb) ?_;have g:=jk (t:=t) hb;have e1:=Bh t b;have e2:=Bk t b;refine Int.eq_of_mul_eq_mul_right (a:=(Int.gcd t b:Int)) (by omega) ?_;rw[Int.mul_assoc,e2,Int.mul_assoc,e1];exact e
theorem Bd.gcd{n:Nat}(h:Bd n b)(hb:b≠0):Bd n (Int.gcd t b:Int):=h.le (by
 rw[Ga]
 exact Nat.le_of_dvd (by omega) (Nat.gcd_dvd_right t.natAbs b.natAbs))
end
theorem DfE.df{P:Program}{w:World}{K:Frag}{mg:Str->Option Value}{base:Heap}{k:Nat}{x:Str}{ps:List Str}{sp:Sp}(D:DfE P w K mg base k x ps sp):Df P w K mg base k x ps fun vs H Q _=>sp vs H Q E0:=by
 obtain⟨f,fd,F,b,hm,kp⟩:=D.ex;refine⟨f,fd,⟨fun vs H Q E h=>F.len vs H Q E0 h,fun A outer s H args us vs Q E hr e0 hb hv hs=>?_⟩,b,hm,kp⟩;refine codeAny_mono (F.run A outer s H args us vs Q E0 hr e0 hb hv hs) fun z s' hq=>?_;cases z with
 |error e=>obtain⟨x,C,T,H',a0,_,_,_,_,_,_,_,_,_,_,_,h⟩:=hq;exact h.elim
 |ok fl=>cases fl<;>exact hq
noncomputable def vX(mg:Str->Option Value)(x:Str):Value:=(mg x).getD .none
theorem Br{K:Frag}{mg:Str->Option Value}{x:Str}{C:Addr}(Z:lW K mg x C):vX mg x=.ref C:=by unfold vX;rw[Z.mg];rfl
theorem vT{K:Frag}{h:Heap}{mg:Str->Option Value}{x:Str}{C:Addr}(X:K.In h)(G:h.Ns mainGlobals mg)(a:nsIn K mainGlobals x=some (some (.ref C)))
 (b:PySem.W.excIn K C vErr "ValueError.__new__"=true):lW K mg x C:=⟨FW X G a,b⟩
theorem nz{K:Frag}{h:Heap}{mg:Str->Option Value}{x:Str}(X:K.In h)(G:h.Ns mainGlobals mg)(a:nsIn K mainGlobals x=some none):mg x=none:=E7 X G a
theorem nC{K:Frag}{h:Heap}{mg:Str->Option Value}{x:Str}{p:Addr}{d:Option Addr}{its:Array Value}{n:Nat}{sl:Array (Option Value)}{xs:List V}(X:K.In h)(G:h.Ns mainGlobals mg)(a:nsIn K mainGlobals x=some (some (.ref p)))
 (l:K.lookup p=some ⟨.type "tuple",d,.seq its n,sl⟩) (hz:its.size<=sizeLine) (r:Vals xs its.toList):∃p,mg x=some (.ref p)/\∀H,SqT K H p xs:=⟨p,FW X G a,fun _=>.inr ⟨_,its,n,l,rfl,rfl,hz,r⟩⟩
def we(t b p q:Int):Prop:=0<q/\Int.gcd p q=1/\p*b=q*t
theorem we.fr{t b p q:Int}(h:we t b p q)(hb:0<b):p=frT t b/\q=frB t b:=Bg hb h.1 h.2.1 h.2.2
theorem pe{a m:Int}(h:m∣a)(hm:m≠0):a.fdiv m*m=a:=by obtain⟨c,rfl⟩:=h;rw[Int.mul_fdiv_cancel_left c hm,Int.mul_comm]
theorem ye{t b m:Int}(hb:b≠0)(hm:m=if b<0 then-(Int.gcd t b:Int)else(Int.gcd t b:Int)):we t b (t.fdiv m) (b.fdiv m):=by
 have g:0<Int.gcd t b:=Int.gcd_pos_of_ne_zero_right t hb;have d1:(Int.gcd t b:Int)∣t:=Int.gcd_dvd_left t b;have d2:(Int.gcd t b:Int)∣b:=Int.gcd_dvd_right t b;have hm0:m≠0:=by rw[hm];split<;>omega
 have md:∀{z:Int},(Int.gcd t b:Int)∣z->m∣z:=fun {z} h=>by
  rw[hm];split
  ·exact Int.neg_dvd.mpr h
  ·exact h
 have e1:=pe (md d1) hm0;have e2:=pe (md d2) hm0;have nm:m.natAbs=Int.gcd t b:=by rw[hm];split<;>omega
 refine⟨?_,?_,?_⟩
 ·rcases Int.lt_or_gt_of_ne hb with z|z
  ·have hm':m<0:=(by rw[hm,Fl z];omega);rcases Int.lt_trichotomy (b.fdiv m) 0 with y|y|y
   ·have:=Int.mul_pos_of_neg_of_neg y hm';omega
   ·rw[y]at e2;omega
   ·exact y
  ·have hm':0<m:=(by rw[hm,Fb (by omega)];omega);rcases Int.lt_trichotomy (b.fdiv m) 0 with y|y|y
   ·have:=Int.mul_neg_of_neg_of_pos y hm';omega
   ·rw[y]at e2;omega
   ·exact y
 ·have a1:=congrArg Int.natAbs e1;have a2:=congrArg Int.natAbs e2;rw[Int.natAbs_mul,nm]at a1 a2;have e3:Int.gcd t b=Nat.gcd (t.fdiv m).natAbs (b.fdiv m).natAbs*Int.gcd t b:=by
   conv=>lhs;unfold Int.gcd
   rw[<-a1,<-a2,Nat.gcd_mul_right]
  have:Nat.gcd (t.fdiv m).natAbs (b.fdiv m).natAbs=1:=Nat.eq_of_mul_eq_mul_right g (show Nat.gcd (t.fdiv m).natAbs (b.fdiv m).natAbs*Int.gcd t b=1*Int.gcd t b by omega);exact this
 ·have a1:t.fdiv m*b=t.fdiv m*(b.fdiv m*m):=by rw[e2]
  have a2:b.fdiv m*t=b.fdiv m*(t.fdiv m*m):=by rw[e1]
  rw[a1,a2];exact Int.mul_left_comm _ _ _
theorem zY{i:Int}(h1: -10000000000000000000000000000000000000000000000000000000000000<=i)(h2:i<=10000000000000000000000000000000000000000000000000000000000000):Bd 250 i:=Bd.of (by
 have e:(2:Nat)^250=1809251394333065553493296640760748560207343510400633813116524750123642650624:=by decide
 rw[e]
 omega)
section
variable{X:Cx}
theorem qj(hc:X.calm=true):fG X (.builtin "sum") (fun xs H Q=>∃(p:Addr)(ns:List Int),xs=[.ref p]/\SqL X.K H p (ns.map V.int)/\Q (.int ns.sum) H):=by
 intro pins s σ H xs us Q I r h;obtain⟨p,ns,rfl,hx,q⟩:=h;obtain⟨u,rfl,ru⟩:=vals1 r;cases ru;obtain⟨vs,rv,pl,hz⟩:=I.list hx;have hi:=intsAre_of rv;obtain⟨ys,e⟩:=hi.allInts.items;have hns:ns=ys.toList.map (·.1):=by rw[<-hi.numsOf,<-nums_intItems,<-e]
 have hl:=pl.isList;rw[e]at hl;refine sum_intListG (I.ok.hd hc) hl fun h' tk t' hk=>?_;refine⟨.int ns.sum,H,I.kept hk,⟨t',?_⟩,q⟩;rw[preSum_eq,List.take_of_length_le (by simp),hns]
theorem yI:SlR X (fun x lo hi H Q=>∃z,x=.str z/\z.length<=sizeLine/\Q (.str (Txt.slice z lo hi)) H):=by
 intro pins s σ H x v vl vu lo hi sl Q I rx hs pl pu h;obtain⟨z,rfl,hz,q⟩:=h;obtain⟨t,rfl⟩:=rx;obtain⟨o,ho,hc,hd⟩:=hs;cases pl with
 |none=>
  cases pu with
  |none=>exact⟨"str",_,F.slot_str_getitem.lookup,typeIs_str _ _ _,wpAny_getItem_str_slice (l:=none) (u:=none) (st:=none) ⟨o,ho,hc,hd⟩ rfl (post_val_or_str ⟨EX (Txt.slice_le z _ _) hz,fun t' k=>⟨.str _,H,I.tok _,⟨_,rfl⟩,q⟩⟩)⟩
  |int j uj=>exact⟨"str",_,F.slot_str_getitem.lookup,typeIs_str _ _ _,wpAny_getItem_str_slice (l:=none) (u:=some (j,uj)) (st:=none) ⟨o,ho,hc,hd⟩ rfl (post_val_or_str ⟨EX (Txt.slice_le z _ _) hz,fun t' k=>⟨.str _,H,I.tok _,⟨_,rfl⟩,q⟩⟩)⟩
 |int i ui=>
  cases pu with
  |none=>exact⟨"str",_,F.slot_str_getitem.lookup,typeIs_str _ _ _,wpAny_getItem_str_slice (l:=some (i,ui)) (u:=none) (st:=none) ⟨o,ho,hc,hd⟩ rfl (post_val_or_str ⟨EX (Txt.slice_le z _ _) hz,fun t' k=>⟨.str _,H,I.tok _,⟨_,rfl⟩,q⟩⟩)⟩
  |int j uj=>exact⟨"str",_,F.slot_str_getitem.lookup,typeIs_str _ _ _,wpAny_getItem_str_slice (l:=some (i,ui)) (u:=some (j,uj)) (st:=none) ⟨o,ho,hc,hd⟩ rfl (post_val_or_str ⟨EX (Txt.slice_le z _ _) hz,fun t' k=>⟨.str _,H,I.tok _,⟨_,rfl⟩,q⟩⟩)⟩
end
theorem Bw(x y:Str):(x++y).length=x.length+y.length:=by show(x.cps++y.cps).size=x.cps.size+y.cps.size;simp
noncomputable abbrev Sh:=List (Str×Int×Int)
def TK(H H':Hp):Prop:=(∀a xs,H a=some (.tup xs)->H' a=some (.tup xs))/\∀a o xs,H a=some (.frz o (.tup xs))->H' a=some (.frz o (.tup xs))
theorem aq.tk{H H':Hp}(s:aq H H'):TK H H':=⟨fun _ _ e=>s _ _ e,fun _ _ _ e=>s _ _ e⟩
theorem TK.lst{H:Hp}{D:Addr}{xs:List V}{o:HO}(hD:H D=some (.lst xs)):TK H (upd H D o):=
 ⟨fun _ _ e=>by rw[aN (BF e hD (fun z=>nomatch z))];exact e,fun _ _ _ e=>by rw[aN (BF e hD (fun z=>nomatch z))];exact e⟩
theorem TK.sq{K:Frag}{H H':Hp}{a:Addr}{xs:List V}(t:TK H H')(h:SqT K H a xs):SqT K H' a xs:=by
 rcases h with(h|⟨o,h⟩)|h
 ·exact .inl (.inl (t.1 _ _ h))
 ·exact .inl (.inr ⟨o,t.2 _ _ _ h⟩)
 ·exact .inr h
theorem Paired.imp{α β:Type}{R R':α->β->Prop}(h:∀x y,R x y->R' x y){xs:List α}{ys:List β}(hI:Paired R xs ys):Paired R' xs ys:=by
 induction hI with
 |nil=>exact .nil
 |cons a b ih=>exact .cons (h _ _ a) (ih)
theorem fW{α β:Type}{R:α->β->Prop}:∀{xs:List α}{ys:List β}{i:Nat}{x:α},Paired R xs ys->xs[i]?=some x->∃y,ys[i]?=some y/\R x y
 |_,_,_,_,.nil,e=>by simp at e
 |_,_,0,_,.cons a _,e=>by simp at e;subst e;exact⟨_,rfl,a⟩
 |_,_,i+1,x,.cons _ b,e=>by obtain⟨y,h1,h2⟩:=fW (i:=i) (x:=x) b (by simpa using e);exact⟨y,by simpa using h1,h2⟩
noncomputable abbrev Ws:=List (Str×Int)
noncomputable def gW(ws:Ws):Int:=(ws.map (·.2)).sum
theorem Paired.app{α β:Type}{R:α->β->Prop}{xs xs':List α}{ys ys':List β}(hI:Paired R xs ys):Paired R xs' ys'->Paired R (xs++xs') (ys++ys'):=by
 induction hI with
 |nil=>exact fun h=>h
 |cons a b ih=>exact fun h=>.cons a (ih h)
end L2
namespace L2
theorem Bl{t b:Int}(ht:0<t)(hb:0<b):0<frT t b:=by
 have e:=Bh t b;have g:=jk (t:=t) hb;rcases Int.lt_trichotomy (frT t b) 0 with z|z|z
 ·have:=Int.mul_neg_of_neg_of_pos z g;omega
 ·rw[z]at e;omega
 ·exact z
end L2
theorem Ac(a:Int):0<=(if a<0 then-a else a):=by split<;>omega
theorem Be(a b:Int):Int.gcd (if a<0 then-a else a) (if b<0 then-b else b)=Int.gcd a b:=by split<;>split<;>simp
namespace L2
open PySem PySem.Spec PyProof.Rows
section
variable{X:Cx}
theorem zW{bs:List Bool}{its:List Value}(rv:Vals (bs.map V.bl) its){i:Nat}{v:Value}(h:its[i]?=some v):∃b,bs[i]?=some b/\v=.bool b:=by
 have hl:=rv.length;rw[Ew]at hl;have hi:i<bs.length:=by
  rcases Nat.lt_or_ge i its.length with z|z
  ·omega
  ·rw[List.getElem?_eq_none z]at h;cases h
 obtain⟨b,hb⟩:∃b,bs[i]?=some b:=⟨bs[i],by simp[hi]⟩;obtain⟨u,h1,h2⟩:=Vals.get rv (i:=i) (x:=.bl b) (by rw[E8,hb];rfl);rw[h]at h1;cases h1;exact⟨b,hb,h2⟩
theorem range_all(bs:List Bool):((List.range bs.length).all fun i=>bs.getD i false)=bs.all id:=by
 rw[Fu,FV,FV];constructor
 ·intro h b hb;obtain⟨i,hi,rfl⟩:=List.getElem_of_mem hb;have:=h i (FC.mpr hi);simpa[List.getD,hi]using this
 ·intro h i hi;have hi:=FC.mp hi;have:=h bs[i] (List.getElem_mem hi);simpa[List.getD,hi]using this
def Ef:List V->Hp->VK->Prop:=fun xs H Q=>∃(p:Addr)(bs:List Bool),xs=[.ref p]/\Rd H p (.lst (bs.map V.bl))/\Q (.bl (bs.all id)) H
theorem jA(hc:X.calm=true):fG X (.builtin "all") Ef:=by
 intro pins s σ H xs us Q I r h;obtain⟨p,bs,rfl,hx,q⟩:=h;obtain⟨u,rfl,ru⟩:=vals1 r;cases ru;obtain⟨its,rv,pl,hz⟩:=I.list (.inl hx:SqL X.K H p _);have hl:=rv.length;rw[Ew]at hl;have hI:=pl.isList;have hlt:p<s.heap.objs.size:=by obtain⟨_,e,_⟩:=hI;exact EM e
 have hne:p≠s.heap.objs.size:=Fx hlt;refine call_all_walk (wpAny_pyIter_list hI ?_);refine⟨_,_,_,_,_,_,fun i=>bs.getD i false,rfl,Walks.list (A:=X.A.in1) (I.ok.hd hc) _ p hne its.toArray,⟨⟨_,Fh _ rfl,rfl,rfl⟩,hI.push _⟩,?_,fun h' tk hk=>?_⟩
 ·intro i v s Q E hv hq;obtain⟨b,hb,rfl⟩:=zW rv (by simpa using hv);have e:bs.getD i false=b:=by simp[List.getD,hb]
  have hq':Q (bs.getD i false) s:=hq;rw[e]at hq';exact EF hq'
 ·rw[EJ,<-hl,range_all];exact⟨.bl _,H,I.kept (old_kept hk),rfl,q⟩
end
noncomputable def eC(f g:Int×Int):Int×Int:=(frT (f.1*g.2+g.1*f.2) (f.2*g.2),frB (f.1*g.2+g.1*f.2) (f.2*g.2))
structure kf(f:Int×Int):Prop where
 pos:0<f.2
 cop:Int.gcd f.1 f.2=1
theorem rT(t:Int){b:Int}(h:0<b):kf (frT t b,frB t b):=⟨rV h,vS h⟩
theorem kO{f g:Int×Int}(hf:0<f.2)(hg:0<g.2):kf (eC f g):=rT _ (Int.mul_pos hf hg)
theorem Cs{t b:Int}(ht:0<=t)(hb:0<b):0<=frT t b:=by
 rcases Int.lt_or_eq_of_le ht with h|h
 ·exact Int.le_of_lt (Bl h hb)
 ·subst h;unfold frT;simp
theorem xj{K:Frag}{a:Addr}{xs:List V}{g:TG}{tt:TT}{te:TE}{σ0:St}{Q:Hp->Prop}{D:Addr}{H:Hp}(Pv:Nat->List V->Hp->Prop)(h0:Pv 0 [] H)(hl:∀i acc H,i<=xs.length->Pv i acc H->SqT K H a xs)
  (hs:∀i x acc H2,xs[i]?=some x->Pv i acc H2->g x σ0 H2 fun σ2 H4=>tt σ2 H4 fun b H5=>if b=true then te σ2 H5 fun y H6=>H6 D=some (.lst acc)/\acc.length<sizeLine/\Pv (i+1) (acc++[y]) (upd H6 D (.lst (acc++[y])))else Pv (i+1) acc H5)
  (hd:∀acc H2,Pv xs.length acc H2->Q H2):
  ∃W:Nat->Nat->List V->Hp->Prop,(∃m,W 0 m [] H)/\∀i m acc H2,W i m acc H2->
   ((Itt K a).stop i H2/\Q H2)\/((Itt K a).go i H2/\∃N:List V->Hp->Prop,(∀acc' H',N acc' H'->∃m',m'<m/\W (i+1) m' acc' H')/\∀x H3,(Itt K a).yld i H2 x H3->g x σ0 H3 fun σ2 H4=>tt σ2 H4 fun b H5=>if b=true then te σ2 H5 fun y H6=>H6 D=some (.lst acc)/\acc.length<sizeLine/\N (acc++[y]) (upd H6 D (.lst (acc++[y])))else N acc H5):=by
 refine⟨fun i m acc H=>m=xs.length-i/\i<=xs.length/\Pv i acc H,⟨xs.length,by simp,EH _,h0⟩,?_⟩;rintro i m acc H2 ⟨rfl,hi,p⟩;have q:=hl i acc H2 hi p;by_cases hlt:i<xs.length
 ·refine .inr ⟨⟨xs,xs[i],q,by simp[hlt]⟩,Pv (i+1),fun acc' H' p'=>⟨xs.length-(i+1),by omega,rfl,hlt,p'⟩,fun x H3 y=>?_⟩;obtain⟨e,y⟩:=y;subst e;exact hs i x acc _ (y xs q) p
 ·have e:i=xs.length:=by omega
  subst e;exact .inl ⟨⟨xs,q,EG _⟩,hd acc H2 p⟩
theorem AG{f g:Int×Int}(hf:0<f.2)(hg:0<g.2)(h1:0<=f.1)(h2:0<=g.1):0<=(eC f g).1:=
 Cs (Int.add_nonneg (Int.mul_nonneg h1 (Int.le_of_lt hg)) (Int.mul_nonneg h2 (Int.le_of_lt hf))) (Int.mul_pos hf hg)
noncomputable def Ct(t b:Int):Int×Int:=(frT t b,frB t b)
theorem Bm(t:Int){b:Int}(h:0<b):kf (Ct t b):=rT t h
theorem qc:kf (0,1):=⟨by decide,by decide⟩
noncomputable def sumF(l:List (Int×Int)):Int×Int:=l.foldl eC (0,1)
theorem xy(l:List (Int×Int))(f:Int×Int):sumF (l++[f])=eC (sumF l) f:=by unfold sumF;rw[List.foldl_append];rfl
theorem pO{l:List (Int×Int)}{i:Nat}{f:Int×Int}(h:l[i]?=some f):sumF (l.take (i+1))=eC (sumF (l.take i)) f:=by rw[FD,h,FN,xy]
structure PF(D:Int)(f:Int×Int):Prop where
 ok:kf f
 nn:0<=f.1
 le:f.1<=f.2
 dv:f.2∣D
theorem xi{p q D z:Int}(h:Int.gcd p q=1)(e:p*D=q*z):q∣D:=by
 have c:Nat.Coprime q.natAbs p.natAbs:=Nat.Coprime.symm h;have d:q.natAbs∣p.natAbs*D.natAbs:=by rw[<-Int.natAbs_mul,e,Int.natAbs_mul];exact Nat.dvd_mul_right _ _
 exact Int.natAbs_dvd_natAbs.mp (c.dvd_of_dvd_mul_left d)
theorem yW{f g:Int×Int}{D:Int}(hD:0<D)(hf:0<f.2)(hg:0<g.2)(h1:f.2∣D)(h2:g.2∣D):(eC f g).2∣D:=by
 obtain⟨a,ea⟩:=h1;obtain⟨b,eb⟩:=h2;have k:=kO hf hg;have c:=k7 (f.1*g.2+g.1*f.2) (f.2*g.2);have c':(eC f g).1*(f.2*g.2)=(eC f g).2*(f.1*g.2+g.1*f.2):=c;refine xi (z:=f.1*a+g.1*b) k.cop (Int.eq_of_mul_eq_mul_right (a:=D) (by omega) ?_);generalize (eC f g).1=p at c' ⊢;generalize (eC f g).2=q at c' ⊢;have e1:p*D*D=p*(f.2*g.2)*(a*b):=by
  have:p*D*D=p*(f.2*a)*(g.2*b):=by rw[<-ea,<-eb]
  rw[this];grind
 have e2:q*(f.1*a+g.1*b)*D=q*(f.1*a*(g.2*b)+g.1*b*(f.2*a)):=by
  have:q*(f.1*a+g.1*b)*D=q*(f.1*a*D+g.1*b*D):=by grind
  rw[this]
  conv=>lhs;rw[show f.1*a*D=f.1*a*(g.2*b) by rw[<-eb],show g.1*b*D=g.1*b*(f.2*a) by rw[<-ea]]
 rw[e1,e2,c'];grind
theorem AH{f g:Int×Int}{k:Int}(hf:0<f.2)(hg:0<g.2)(h1:f.1<=k*f.2)(h2:g.1<=g.2):(eC f g).1<=(k+1)*(eC f g).2:=by
 have c:=k7 (f.1*g.2+g.1*f.2) (f.2*g.2);have c':(eC f g).1*(f.2*g.2)=(eC f g).2*(f.1*g.2+g.1*f.2):=c;have q0:=(kO hf hg).pos;have bc:=Int.mul_pos hf hg;refine Int.le_of_mul_le_mul_right (a:=f.2*g.2) ?_ bc;rw[c'];have m1:f.1*g.2<=k*f.2*g.2:=Int.mul_le_mul_of_nonneg_right h1 (Int.le_of_lt hg);have m2:g.1*f.2<=g.2*f.2:=Int.mul_le_mul_of_nonneg_right h2 (Int.le_of_lt hf);have m3:f.1*g.2+g.1*f.2<=(k+1)*(f.2*g.2):=by
  have:(k+1)*(f.2*g.2)=k*f.2*g.2+g.2*f.2:=by grind
  omega
 have m4:=Int.mul_le_mul_of_nonneg_left m3 (Int.le_of_lt q0);have:(eC f g).2*((k+1)*(f.2*g.2))=(k+1)*(eC f g).2*(f.2*g.2):=by grind
 omega
structure SF(D k:Int)(f:Int×Int):Prop where
 ok:kf f
 nn:0<=f.1
 le:f.1<=k*f.2
 dv:f.2∣D
theorem wz{D:Int}(hD:0<D){l:List (Int×Int)}(h:∀f∈l,PF D f):∀i,SF D (i:Nat) (sumF (l.take i))
 | 0=>⟨qc,Int.le_refl _,by simp[sumF],Int.one_dvd _⟩
 |i+1=>by
  have ih:=wz hD h i;cases e:l[i]? with
  |none=>
   have hl:l.length<=i:=List.getElem?_eq_none_iff.mp e;rw[List.take_of_length_le (by omega)];rw[List.take_of_length_le hl]at ih;refine⟨ih.ok,ih.nn,?_,ih.dv⟩;have:=ih.le;have p:=ih.ok.pos;have:((i+1:Nat):Int)*(sumF l).2=(i:Int)*(sumF l).2+(sumF l).2:=by rw[Int.natCast_add,Int.add_mul];simp
   omega
  |some f=>
   have pf:=h f (EY e);rw[pO e]
   exact⟨kO ih.ok.pos pf.ok.pos,AG ih.ok.pos pf.ok.pos ih.nn pf.nn,by
    have:=AH (k:=(i:Int)) ih.ok.pos pf.ok.pos ih.le pf.le;rw[Int.natCast_add]
    exact this,yW hD ih.ok.pos pf.ok.pos ih.dv pf.dv⟩
theorem CC{n:Nat}{x D:Int}(hx:0<x)(hD:0<D)(h:x∣D)(b:Bd n D):Bd n x:=by have le:=Int.le_of_dvd hD h;refine Bd.of (Nat.lt_of_le_of_lt ?_ b.lt);omega
theorem CB{n:Nat}{x y k:Int}(hx:0<=x)(hk0:0<=k)(hk:k<=64)(h:x<=k*y)(hy:0<y)(b:Bd n y):Bd (n+7) x:=by
 have h2:x<=64*y:=Int.le_trans h (Int.mul_le_mul_of_nonneg_right hk (Int.le_of_lt hy));have l:=b.lt;refine Bd.of ?_;rw[Nat.pow_add];have:(2:Nat)^7=128:=by decide
 rw[this];omega
theorem SF.bd{D k:Int}{n:Nat}{f:Int×Int}(h:SF D k f)(hD:0<D)(b:Bd n D)(k0:0<=k)(hk:k<=64):Bd (n+7) f.1/\Bd (n+7) f.2:=by have b2:=CC h.ok.pos hD h.dv b;exact⟨CB h.nn k0 hk h.le h.ok.pos b2,b2.mono (by omega)⟩
theorem PF.bd{D:Int}{n:Nat}{f:Int×Int}(h:PF D f)(hD:0<D)(b:Bd n D):Bd (n+7) f.1/\Bd (n+7) f.2:=
 SF.bd (k:=1) ⟨h.ok,h.nn,by have:=h.le;omega,h.dv⟩ hD b (by decide) (by decide)
noncomputable def oW:Key->PyData
 | .inl i=>.int i
 | .inr x=>.str x
noncomputable def BW(ks:List Key):PyData:=.tuple (ks.map oW)
theorem A3(a b:Key):PyData.eqv (oW a) (oW b)=decide (a=b):=by
 cases a with
 |inl i=>
  cases b with
  |inl j=>
   show(i==j)=_;by_cases h:i=j
   ·subst h;simp
   ·simp[h]
  |inr y=>rfl
 |inr x=>
  cases b with
  |inl j=>rfl
  |inr y=>
   show(x==y)=_;by_cases h:x=y
   ·subst h;simp
   ·simp[h]
theorem wB:∀(a b:List Key),PyData.eqvAll (a.map oW) (b.map oW)=decide (a=b)
 | [],[]=>rfl
 | [],_::_=>rfl
 |_::_,[]=>rfl
 |x::a,y::b=>by
  show(PyData.eqv (oW x) (oW y)&&PyData.eqvAll (a.map oW) (b.map oW))=_;rw[A3,wB a b];by_cases h1:x=y
  ·by_cases h2:a=b
   ·simp[h1,h2]
   ·simp[h1,h2]
  ·simp[h1]
end L2
namespace L2
open PySem PySem.Spec PyProof.Rows My
theorem A4{n j:Nat}(h:j<n):ixN n (j:Int)=some j:=by unfold ixN;rw[Fl (by omega),Fl (by omega),ET]
end L2
namespace L2
open PySem PySem.Spec PyProof.Rows
section
variable{P:Program}{w:World}{A:Around}{E:Value->Shared->Prop}{s:Shared}{it a:Addr}{its:Array Value}{i:Nat}
theorem Cb{Q:Value->Shared->Prop}{x:Value}(st:s.heap.IsTupleIter it a i)(g:s.heap.IsTuple a its)(hx:its[i]?=some x)
  (q:∀h',h'.IsTupleIter it a (i+1)->Heap.SameBut it s.heap h'->Q x {s with heap:=h'}):wpAny (model P w) A (Builtin.SmallTypes.nextOf (.ref it)) Q E s:=by
 obtain⟨oi,gi,ci,di⟩:=id st;obtain⟨ot,gt,_,n,dt⟩:=g;unfold Builtin.SmallTypes.nextOf;refine Eu (wpAny_callSpecial?_slot (name:=Str.ofString "__next__") st.typeIs Gi (wpAny_call_entry Gi st.typeIs F.entry_tuple_iterator_next ?_ (F.args_tuple_iterator_next_1 _)));show wpAny _ _ (field (.ref it) 0>>= _) _ _ s;refine Eu (wpAny_field gi di (x:=.ref a) rfl ?_);show wpAny _ _ (if(Value.ref a==Value.none)=true then _ else _) _ _ s;rw[Fb (show ¬((Value.ref a==Value.none)=true)from EE)];show wpAny _ _ (field (.ref it) 1>>= _) _ _ s;refine Eu (wpAny_field gi di (x:=.int i 0) rfl ?_);show wpAny _ _ (seqItems? (.ref a)>>= _) _ _ s;refine Eu (wpAny_seqItems gt dt ?_);simp only[ET,hx];refine Eu (wpAny_setField gi di (by simp) (EF ⟨x,rfl,EF (q _ ?_ (Heap.SameBut.update ..))⟩));refine⟨_,FZ _ gi (Obj.isFreed_of_fields (Obj.data_mapFields di _)),(Obj.cls_mapFields ..).trans ci,?_⟩;rw[Obj.data_mapFields di];simp[rawInt]
theorem AQ{Q:Value->Shared->Prop}(hh:A.handled=none)(st:s.heap.IsTupleIter it a i)(g:s.heap.IsTuple a its)(hx:its[i]?=none)
  (q:∀h' e,Heap.ExtBut it s.heap h'->(∃o,h'.get? e=some o/\o.cls=.type "StopIteration")->E (.ref e) {s with heap:=h'}):wpAny (model P w) A (Builtin.SmallTypes.nextOf (.ref it)) Q E s:=by
 obtain⟨oi,gi,ci,di⟩:=id st;obtain⟨ot,gt,_,n,dt⟩:=g;unfold Builtin.SmallTypes.nextOf;refine Eu (wpAny_callSpecial?_slot (name:=Str.ofString "__next__") st.typeIs Gi (wpAny_call_entry Gi st.typeIs F.entry_tuple_iterator_next ?_ (F.args_tuple_iterator_next_1 _)));show wpAny _ _ (field (.ref it) 0>>= _) _ _ s;refine Eu (wpAny_field gi di (x:=.ref a) rfl ?_);show wpAny _ _ (if(Value.ref a==Value.none)=true then _ else _) _ _ s;rw[Fb (show ¬((Value.ref a==Value.none)=true)from EE)];show wpAny _ _ (field (.ref it) 1>>= _) _ _ s;refine Eu (wpAny_field gi di (x:=.int i 0) rfl ?_);show wpAny _ _ (seqItems? (.ref a)>>= _) _ _ s;refine Eu (wpAny_seqItems gt dt ?_);simp only[ET,hx]
 first
  |refine Eu (wpAny_rule (Eu (wpAny_setField gi di (by simp) (Eu (wpAny_letGo ?_)))))
  |refine Eu (wpAny_rule (Eu (wpAny_setField gi di (by simp) ?_)))
  |refine Eu (wpAny_setField gi di (by simp) ?_)
 show wpAny _ _ (newExc (.type "StopIteration") []>>= _) _ _ _;refine Eu ?_;simp only[newExc,newTuple];refine Eu (F4 ?_ (by size_fits));refine Eu (m:=firstArgMember _ _) (wpAny_of_eq (a:=Value.none) (by first|rfl|(simp only[firstArgMember];rfl)) (F4 ?_ (by size_fits)));simp only[raiseNew];refine Eu (wpAny_handled ?_)
 first|rw[show A.in1.handled=none from hh]|rw[hh]
 refine Eu (EF (wpAny_throw ?_));exact q _ _ (((Heap.SameBut.update ..).extBut.push _).push _) ⟨_,Fh _ rfl,rfl⟩
theorem zN(hh:A.handled=none)(ne:a≠it):Draws P w A it [it,a] its.size (fun i x=>its[i]?=some x) (fun i h=>h.IsTupleIter it a i/\h.IsTuple a its) where
 live:=fun i h st=>by obtain⟨⟨o,e,_⟩,_⟩:=st;exact⟨o,e⟩
 frame:=fun i h h' st k=>⟨st.1.at fun o e=>k it (by simp) o e,by
  obtain⟨o,e,r⟩:=st.2
  exact⟨o,k a (by simp) o e,r⟩⟩
 item:=fun i s Q E hi st q=>Cb st.1 st.2 (Array.getElem?_eq_getElem hi) fun h' st' sb=>q _ h' s.toks (Array.getElem?_eq_getElem hi) ⟨st',by
  obtain⟨o,e,r⟩:=st.2
  exact⟨o,(sb.2 a ne).trans e,r⟩⟩ sb
 done:=fun s Q E st q=>AQ hh st.1 st.2 (Array.getElem?_eq_none (EG _)) q
end
section
variable{X:Cx}{pins:List (Addr×Obj)}{σ:St}{H:Hp}{s:Shared}{h':Heap}
theorem An{t':Nat}{e it T:Addr}{xs:List V}(I:Inv X pins σ H s)(k:∀b o,b≠e->b≠it->s.heap.get? b=some o->h'.get? b=some o)(he:nq X pins H e)(hi:nq X pins H it)
  (hT:s.heap.objs.size<=T) (new:cW X.prog X.w (upd H T (.tup xs)) h' T (.tup xs)):Inv X pins σ (upd H T (.tup xs)) {s with heap:=h',toks:=t'}:=by
 obtain⟨e0,e1,e2,e3,e4,e5⟩:=he;obtain⟨i0,i1,i2,i3,i4,i5⟩:=hi;have hn:H T=none:=I.hok.fresh hT;have nt:∀b o,s.heap.get? b=some o->b≠T:=fun b o g z=>absurd (EB (EM g) (z▸hT)) (F6 _);have ue:∀b u,H b=some u->upd H T (.tup xs) b=some u:=fun b u g=>by rw[aN (cR g hn)];exact g
 have k2:∀b o,b∉[e,it]->s.heap.get? b=some o->h'.get? b=some o:=fun b o hb g=>k b o (fun z=>hb (by simp[z])) (fun z=>hb (by simp[z])) g;refine I.step (g':=s.gens) (d':=s.drawn) (ch:=[e,it]) (fun b hb=>?_) (fun b o _ _ hc g _=>k2 b o hc g) (fun b o _ _ hc g _=>⟨o.slots,k2 b o hc g⟩) (fun b o _ g n=>by rw[aN (nt b o g)];exact n)
  (fun b o hc g=>⟨o,k2 b o hc g⟩) (fun b ys g=>ue b _ g) (fun b o u g=>ue b _ g) (fun b ps g=>⟨#[],by rw[ue b _ g];simp⟩) (fun m hm=>?_) (fun b u g=>?_) I.bare
 ·have z:b=e\/b=it:=by simpa using hb
  rcases z with rfl|rfl
  ·exact⟨e3,e1,e4,e5⟩
  ·exact⟨i3,i1,i4,i5⟩
 ·obtain⟨o,es,ep,ho,r⟩:=hm;exact⟨o,es,ep,k _ o (Gj e1) (Gj i1) ho,r⟩
 ·by_cases hb:b=T
  ·subst hb;rw[ag]at g;cases g;exact new
  ·rw[aN hb]at g;refine(I.hok b u g).stay (fun c v hc q=>?_) (fun c q=>ue c _ q) fun c ys q=>ue c _ q;have z:∃u',H c=some u':=by
    rcases hc with z|z
    ·exact⟨u,z▸g⟩
    ·exact⟨_,z⟩
   obtain⟨u',z⟩:=z;exact k c v (fun y=>by rw[y,e0]at z;cases z) (fun y=>by rw[y,i0]at z;cases z) q
end
section
variable{prog:Program}{w:World}{A:Around}{E:Value->Shared->Prop}{s:Shared}
open HT in
theorem oY{t sl:Addr}{items:Array Value}{vl vu:Value}{lo hi:Option Int}{Q:Value->Shared->Prop}(ht:IsTup s.heap t items)(hs:s.heap.IsSliceOf sl vl vu .none)(pl:IsPart vl lo)(pu:IsPart vu hi)
  (hw:sIx items.size 0 lo=0/\sIx items.size items.size hi=items.size) (h:Q (.ref t) s):wpAny (model prog w) A (getItem (.ref t) (.ref sl)) Q E s:=by
 obtain⟨os,hos,hcs,hds⟩:=id hs;have hTs:s.TypeIs (.ref sl) "slice":=⟨os,hos,hcs⟩;unfold getItem
 try with_reducible refine Gh ?_
 first|refine Eu (EF ?_)|skip
 refine Eu (wpAny_sequenceKey ht.typeIs (by decide) ?_);refine Eu (wpAny_callSpecial?_slot (name:=Str.ofString "__getitem__") ht.typeIs Fs (wpAny_call_entry Fs ht.typeIs entry_tuple_getitem ?_ (args_tuple_getitem _ _)));show wpAny _ _ (Builtin.Tuple.tupleItemsOf (.ref t)>>= _) _ _ s;refine Eu (tupleItemsOf_ ht ?_);refine Eu (wpAny_typeOf hTs ?_);rw[Fl (by decide)];refine Eu (hU hs pl pu ?_);have yes:((((sIx items.size 0 lo:Nat):Int)==0&&(1:Int)==1&&(sIx items.size items.size hi-sIx items.size 0 lo)==items.size)=true):=by rw[hw.1,hw.2];simp
 show wpAny _ _ (if(((sIx items.size 0 lo:Nat):Int)==0&&(1:Int)==1&&(sIx items.size items.size hi-sIx items.size 0 lo)==items.size)=true then _ else _) _ _ s;rw[Fl yes];have ex:∀{B:Around}{R:Bool->Shared->Prop}{E':Value->Shared->Prop},R true s->wpAny (model prog w) B (Builtin.Tuple.tupleIsExact (.ref t)) R E' s:=by
  intro B R E' q;obtain⟨o,ho,hc,n,hd⟩:=id ht;unfold Builtin.Tuple.tupleIsExact
  first
   |refine Eu (wpAny_typeOf ht.typeIs (EF ?_))
   |refine Eu (wpAny_load ho (EF ?_))
  first|exact q|(rw[hc];exact q)|simpa using q
 first
  |exact Eu (ex (Eu (wpAny_rule (EF ⟨_,rfl,EF h⟩))))
  |exact Eu (ex (Eu (wpAny_rule (Eu (EF (EF ⟨_,rfl,EF h⟩))))))
  |(refine Eu (ex ?_);simp only[if_true];refine Eu (wpAny_rule ?_);first|exact EF ⟨_,rfl,EF h⟩|exact Eu (EF (EF ⟨_,rfl,EF h⟩)))
end
section
variable{X:Cx}
def D8(K:Frag):V->Option Int->Option Int->Hp->VK->Prop:=fun x lo hi H Q=>∃a xs,x=.ref a/\SqT K H a xs/\∀r H',aq H H'->SqT K H' r (jq xs lo hi)->Q (.ref r) H'
theorem Ar:SlR X (D8 X.K):=by
 intro pins s σ H x v vl vu lo hi sl Q I rx hs pl pu h;obtain⟨a,xs,rfl,hx,q⟩:=h;by_cases hw:HT.sIx xs.length 0 lo=0/\HT.sIx xs.length xs.length hi=xs.length
 ·cases rx;obtain⟨its,r,ht,hz⟩:=I.tuple hx;have hlen:its.toArray.size=xs.length:=by rw[EJ];exact r.length.symm
  have e:jq xs lo hi=xs:=by unfold jq;rw[hw.1,hw.2];simp
  exact⟨"tuple",_,Fs.lookup,ht.typeIs,oY ht hs pl pu (by rw[hlen];exact hw) ⟨.ref a,H,I,rfl,q a H (fun _ _ e=>e) (by rw[e];exact hx)⟩⟩
 ·exact yH pins s σ H _ v vl vu lo hi sl Q I rx hs pl pu ⟨a,xs,rfl,hx,hw,fun p hp=>q p _ (aq.upd hp) (SqT.of ag)⟩
end
end L2
namespace L2
open PySem PySem.Spec PyProof.Rows LM
theorem veq{a b:Int}:decide (V.int a=V.int b)=true<->a=b:=⟨fun h=>V.int.inj (EA h),fun h=>Ey (congrArg V.int h)⟩
end L2
namespace L2
open PySem PySem.Spec PyProof.Rows
noncomputable def Its(x:Str):It:=⟨fun i _=>i<x.cps.size,fun i H v H'=>H'=H/\∃c,x.cps[i]?=some c/\v=.str ⟨#[c]⟩,fun i _=>x.cps.size<=i⟩
theorem xt{P:Program}{w:World}{K:Frag}{tg:Expr}(it:Addr)(x:Str)(t:Tok):Turn P w K tg (Its x) [it] it (fun i h=>h.IsStrIter it "str_ascii_iterator" x t i) where
 mem:=by simp
 obj:=fun i h st b hb=>by
  have e:b=it:=by simpa using hb
  subst e;obtain⟨o,e,c,d⟩:=st;exact⟨o,e,fun v z=>by rw[d]at z;cases z⟩
 keep:=fun i h h' st k=>let ⟨o,ho,r⟩:=st;⟨o,k it (by simp) o ho,r⟩
 item:=by intro X hP hw hK hc i pins s σ H E I hf st hg;subst hP hw hK;obtain⟨f0,f1,f2,f3,f4,f5⟩:=hf it (by simp);have W:=Walks.strAscii (prog:=X.prog) (w:=X.w) (I.ok.hd hc) it x t;refine W.item i s _ _ hg st fun v h' tk hv st' kk=>?_;obtain⟨c,u,hcx,rfl⟩:=hv;have I1:Inv X pins σ H {s with heap:=h',toks:=tk}:=I.turned (fun b o hb e=>kk b o (by simpa using hb) e) f0 f1 f3 f4 f5;obtain⟨o,e,cc,dd⟩:=id st';exact⟨_,rfl,uD (s:={s with heap:=h',toks:=tk}) e cc dd (by decide) ⟨.str ⟨#[c]⟩,H,I1,⟨u,rfl⟩,⟨rfl,c,hcx,rfl⟩,st',fun b hb=>(hf b hb).1⟩⟩
 done:=by intro X hP hw hK hc i pins s σ H E I hf st hg;subst hP hw hK;obtain⟨f0,f1,f2,f3,f4,f5⟩:=hf it (by simp);have hg':x.cps.size<=i:=hg;exact wpAny_pyNext_ascii_end (I.ok.hd hc) st (by simp;omega) fun h' eb=>⟨rfl,I.turned (t':=s.toks) (fun b o hb e=>eb b o hb e) f0 f1 f3 f4 f5⟩
 self:=fun _ _ _ _ _ st h=>wpAny_pyIter_striter_ascii st h
section
variable{X:Cx}{tg:Expr}
def Ek(tl:TE):TI:=fun σ H R=>tl σ H fun v H1=>∃x:Str,v=.str x/\x.cps.all (·<128)=true/\R (Its x) H1
theorem B0{l:Expr}{tl:TE}(hl:PE X l tl):PI X tg l (Ek tl):=by
 intro pins s σ H R I h;refine thn (hl pins s σ H _ I h) fun v s1 hPz=>?_;obtain⟨x,H1,I1,r1,q1⟩:=hPz;obtain⟨y,e,ha,q⟩:=q1;subst e;obtain⟨t,rfl⟩:=r1;refine wpAny_pyIter_ascii ha ?_;refine⟨s1.heap.objs.size,[s1.heap.objs.size],_,_,H1,rfl,I1.kept (t':=s1.toks) fun b o e=>Ex _ e,xt _ y t,⟨_,Fh _ rfl,rfl,rfl⟩,fun b hb=>?_,q⟩;have e:b=s1.heap.objs.size:=by simpa using hb
 subst e;exact I1.fpOk (EG _) (I1.hok.fresh (EG _))
theorem DF{x:Str}{g:TG}{tt:TT}{te:TE}{σ0:St}{Q:Hp->Prop}{D:Addr}{H:Hp}(Pv:Nat->List V->Hp->Prop)(h0:Pv 0 [] H)
  (hs:∀i c acc H2,x.cps[i]?=some c->Pv i acc H2->g (.str ⟨#[c]⟩) σ0 H2 fun σ2 H4=>tt σ2 H4 fun b H5=>if b=true then te σ2 H5 fun y H6=>H6 D=some (.lst acc)/\acc.length<sizeLine/\Pv (i+1) (acc++[y]) (upd H6 D (.lst (acc++[y])))else Pv (i+1) acc H5)
  (hd:∀acc H2,Pv x.cps.size acc H2->Q H2):
  ∃W:Nat->Nat->List V->Hp->Prop,(∃m,W 0 m [] H)/\∀i m acc H2,W i m acc H2->
   ((Its x).stop i H2/\Q H2)\/((Its x).go i H2/\∃N:List V->Hp->Prop,(∀acc' H',N acc' H'->∃m',m'<m/\W (i+1) m' acc' H')/\∀v H3,(Its x).yld i H2 v H3->g v σ0 H3 fun σ2 H4=>tt σ2 H4 fun b H5=>if b=true then te σ2 H5 fun y H6=>H6 D=some (.lst acc)/\acc.length<sizeLine/\N (acc++[y]) (upd H6 D (.lst (acc++[y])))else N acc H5):=by
 refine⟨fun i m acc H=>m=x.cps.size-i/\i<=x.cps.size/\Pv i acc H,⟨x.cps.size,by simp,EH _,h0⟩,?_⟩;rintro i m acc H2 ⟨rfl,hi,p⟩;by_cases hlt:i<x.cps.size
 ·refine .inr ⟨hlt,Pv (i+1),fun acc' H' p'=>⟨x.cps.size-(i+1),by omega,rfl,hlt,p'⟩,fun v H3 y=>?_⟩;obtain⟨rfl,c,hc,rfl⟩:=y;exact hs i c acc _ hc p
 ·have e:i=x.cps.size:=by omega
  subst e;exact .inl ⟨EG _,hd acc H2 p⟩
end
end L2
namespace L2
open PySem PySem.Spec PyProof.Rows LM
noncomputable def LET:Str:=Str.ofString "abcdefghijklmnopqrstuvwxyz"
noncomputable def Cf(c:Nat):Bool:= !(Builtin.Str.occurrences LET ⟨#[c]⟩ 0 LET.length 1).isEmpty
noncomputable def nmS(s:Str):Bool:=decide (1<=(s.length:Int))&&decide ((s.length:Int)<=8)&&s.cps.toList.all Cf
noncomputable def nmD:PyData->Bool
 | .str s=>nmS s
 |_=>false
structure Thg(d:PyData):Prop where
 lay:d.canLay0=true
 dep:d.depth<=4
 asc:∀s,d=.str s->s.cps.all (·<128)=true/\s.length<=100
noncomputable def isS:V->Bool
 | .str _=>true
 |_=>false
theorem A0(K:Frag){H:Hp}{x:V}{n:String}(ty:dJ K H x (.type n)):kitOne K (.type n) (.type "str")=some (isS x):=by cases ty<;>kernel_rfl
def DK(K:Frag)(H:Hp)(v:V)(d:PyData):Prop:=IsD K H d v/\(∃n,dJ K H v (.type n))/\Thg d
theorem Bb{K:Frag}{h:Heap}{mg:Str->Option Value}{x:Str}{i:Str}{t:Tok}(X:K.In h)(G:h.Ns mainGlobals mg)(a:nsIn K mainGlobals x=some (some (.str i t))):∃t,mg x=some (.str i t):=⟨t,FW X G a⟩
end L2
namespace PySem
open Sem (wp)
section
variable{prog:Program}{w:World}{A:Around}{E:Value->Shared->Prop}{h:Heap}{g:Array GenState}{d:Drawn}{t:Nat}{os:OsState}
variable{nm q:Str}{C N:Addr}{bs bm bmB:List Value}{hdct:Bool}{sn:List Str}{sub:List Value}{ab:Bool}{col:Option Bool}{dd:Option Addr}{k0 k1 k2 k3 k5:Option Value}{B newId initId:String}
theorem gw(F:ExcBaseFacts B newId initId bmB)(T:OwnTail h bmB bm){mN:Str->Option Value}{rest:List Value}{fI:Addr}{oI:Obj}{Q:Fin->Shared->Prop}
  (hC:h.get? C=some (excClassObj nm q C N bs bm hdct sn sub ab col dd k0 k1 k2 k3 k5 newId)) (hn:h.Ns N mN) (hi:mN "__init__"=some (.ref fI))
  (hfI:h.get? fI=some oI) (hfc:oI.cls=.type "function")
  (hq:∀h' e,Heap.MadeExcOf h h' e (.ref C) rest->
   wpAny (model prog w) A (call (.ref fI) (.ref e::rest)) (fun r s'=>r=.none/\Q (.done (.ret (.ref e))) s') E ⟨h',g,d,t,os⟩) (hrest:rest.length<=sizeLine:=by size_fits):
  wpAny (model prog w) A (Builtin.«type.__call__» ⟨.ref C::rest,[]⟩) Q E ⟨h,g,d,t,os⟩:=by
 repeat (first|with_reducible refine Ff hC ?_|with_reducible refine wpAny_madeBy_exc hC ?_|wp_step)
 refine codeAny_call_builtin_code (Code.quiet_builtin _ F.quiet) (wpAny_check_new_subT F T hC ?_);refine codeAny_exc_new_subT F T hC ?_ hrest;show wpAny _ _ _ _ _ _;have hC₁:=Ex {cls:=.ref C,data:=.fields #[.ref h.objs.size,.none,.none,.none,.bool false,.none]}
  (Ex {cls:=.type "tuple",data:=.seq rest.toArray} hC)
 have hfI₁:=Ex {cls:=.ref C,data:=.fields #[.ref h.objs.size,.none,.none,.none,.bool false,.none]}
  (Ex {cls:=.type "tuple",data:=.seq rest.toArray} hfI)
 have hn₁:((h.push {cls:=.type "tuple",data:=.seq rest.toArray}).push {cls:=.ref C,data:=.fields #[.ref h.objs.size,.none,.none,.none,.bool false,.none]}).Ns N mN:=
  let ⟨o,es,ep,e,r⟩:=hn;⟨o,es,ep,Ex _ (Ex _ e),r⟩
 have hget:((h.push {cls:=.type "tuple",data:=.seq rest.toArray}).push
   {cls:=.ref C,data:=.fields #[.ref h.objs.size,.none,.none,.none,.bool false,.none]}).get? (h.objs.size+1)=some
   {cls:=.ref C,data:=.fields #[.ref h.objs.size,.none,.none,.none,.bool false,.none]}:=by heap_get
 have hcC:(Value.ref C::bm).contains (.ref C)=true:=by simp
 have T₁:=T.keeps (h':=(h.push {cls:=.type "tuple",data:=.seq rest.toArray}).push {cls:=.ref C,data:=.fields #[.ref h.objs.size,.none,.none,.none,.bool false,.none]})
  fun b o e=>Ex _ (Ex _ e)
 unfold isInstance
 repeat (first|with_reducible refine Ff hget ?_|(with_reducible refine wpAny_isSubtype_exc hC₁ ?_;rw[hcC])|wp_step)
 show wpAny _ _ (typeLookup (.ref C) _) _ _ _;refine wpAny_typeLookup_tail hC₁ hn₁ T₁ F.mroIs F.init.lookup ?_;rw[hi];refine Gh (Eu ?_);unfold bindSpecial;refine Eu (wpAny_typeOf (T:="function") ⟨_,hfI₁,hfc⟩ ?_);rw[Fl (by decide)];refine EF (Eu (E6 (hq _ (h.objs.size+1) ⟨fun b o hb=>Ex _ (Ex _ hb),Heap.get?_none_of_le (Nat.le_succ _),h.objs.size,hget,Heap.get?_none_of_le (EG _),?_⟩) (fun r s' hr=>?_) fun _ _ x=>x))
 ·exact Ex _ (Heap.get?_push_at rfl rfl)
 ·obtain⟨rfl,hQ⟩:=hr
  wp_walk
  exact hQ
theorem iM(F:ExcBaseFacts B newId initId bmB)(T:OwnTail h bmB bm){mN:Str->Option Value}{rest:List Value}{fI:Addr}{oI:Obj}{Q:Value->Shared->Prop}
  (hC:h.get? C=some (excClassObj nm q C N bs bm hdct sn sub ab col dd k0 k1 k2 k3 k5 newId)) (hn:h.Ns N mN) (hi:mN "__init__"=some (.ref fI))
  (hfI:h.get? fI=some oI) (hfc:oI.cls=.type "function")
  (hq:∀h' e,Heap.MadeExcOf h h' e (.ref C) rest->
   wpAny (model prog w) (A.under (.builtin "type.__call__" ⟨.ref C::rest,[]⟩)) (call (.ref fI) (.ref e::rest)) (fun r s'=>r=.none/\Q (.ref e) s') E ⟨h',g,d,t,os⟩) (hrest:rest.length<=sizeLine:=by size_fits):
  wpAny (model prog w) A (call (.ref C) rest) Q E ⟨h,g,d,t,os⟩:=by
 have f1:=tc_lookup;have f2:=tc_bind (.ref C);have hT:(⟨h,g,d,t,os⟩:Shared).TypeIs (.ref C) "type":=⟨_,hC,rfl⟩;refine wpAny_call (codeAny_of_tree ?_);show wpAny _ _ (callAny (.ref C) _) _ _ _
 repeat (any_goals (first|assumption|with_reducible refine Ff hC ?_|wp_step))
 refine⟨rfl,?_⟩;refine codeAny_call_builtin_at (Code.quiet_builtin _ (by decide+kernel)) entry_typeCall (wpAny_check_type_call_sub hC (gw (hrest:=hrest) F T hC hn hi hfI hfc fun h' e hm=>?_));exact hq h' e hm
end
end PySem
namespace PySem.W
open PySem PySem.Calls PyProof.Rows Builtin Builtin.ObjectAttr
def vErr4:List Value:=[.type "ValueError",.type "Exception",.type "BaseException",.type "object"]
noncomputable def qb:List Value->Bool
 | []=>false
 |v::r=>(v::r)==vErr4||(match v with| .ref _=>qb r|_=>false)
theorem kJ(self:Value):∀{l:List Value},qb l=true->refuseLoop self "__setattr__" l=pure ()
 | [],e=>by cases e
 |v::r,e=>by
  unfold qb at e;rcases Bool.or_eq_true_iff.mp e with q|q
  ·rw[show(v::r)=vErr4 from beq_iff_eq.mp q];exact PySem.F.store_ValueError.passes self
  ·split at q
   ·rw[refuseLoop_ref];exact kJ self q
   ·cases q
theorem mj{T:String}(hT:vErr4.contains (.type T)=true):∀{l:List Value},qb l=true->l.contains (.type T)=true
 | [],e=>by cases e
 |v::r,e=>by
  unfold qb at e;rcases Bool.or_eq_true_iff.mp e with q|q
  ·rw[show(v::r)=vErr4 from beq_iff_eq.mp q];exact hT
  ·split at q
   ·rw[List.contains_cons,mj hT q,Bool.or_true]
   ·cases q
noncomputable def jf(K:Frag)(C:Addr):Bool:=(clsIn K C).any fun cd=>qb cd.mro&&cd.hasDict
section
variable{K:Frag}{prog:Program}{w:World}{A:Around}{R:Result->Shared->Prop}{s:Shared}{x C:Addr}
theorem p9{ox:Obj}{od:Option Obj}{name:Str}{tk:Tok}{v:Value}{r:Option Value}(X:K.In s.heap)(I:InstAt s.heap x ox C od)(hp:jf K C=true)(ht:takerIn K C name=some r)
  (h:∀b,wpAny (model prog w) A.in1 (match r with|some a=>setByDescriptor a (.ref x) v|none=>storeInOwnDict (.ref x) (.ref C) (.str name tk) name v b)
   (fun fin s'=>match fin with| .done f=>R (.ok f) s'| .again c'=>c'.quiet=true/\codeAny (model prog w) A c' R s') (fun e s'=>R (.error e) s') s):
  codeAny (model prog w) A (.call (.builtin "object.__setattr__") ⟨[.ref x,.str name tk,v],[]⟩) R s:=by
 have SF:=PySem.F.store_ValueError;obtain⟨cd,hc,ho⟩:=any_some hp;obtain⟨ho,_⟩:=Fj.mp ho;have ne:cd.mro.isEmpty=false:=by cases q:cd.mro with|nil=>rw[q]at ho;cases ho|cons _ _=>rfl
 have sub:Looks (model prog w) s.heap (isInstance (.ref x) (.type "object")) true:=I.type.andThen (looks_mroIn X (by unfold mroIn;rw[hc,Option.bind_some,Fb (by rw[ne];decide),mj rfl ho]));refine FO SF.slot.plain SF.entry (@check_slot (model prog w) _ _ s "object.__setattr__" "object" "__setattr__" (.ref x) [.str name tk,v] [] _ SF.kind SF.split sub (SF.args (.ref x) (.str name tk) v) ?_);obtain⟨attr,ha,hr⟩:=Option.bind_eq_some_iff.mp ht;have hm:Looks (model prog w) s.heap (mroOf (.ref C)) cd.mro:=(looks_clsIn X hc).andThen .now;have L3:Looks (model prog w) s.heap (storeTaker? attr) r:=by
  cases attr with
  |none=>cases hr;exact .now
  |some a=>obtain⟨b,hb,rfl⟩:=Option.map_eq_some_iff.mp hr;refine(looks_takesIn X hb).andThen ?_;cases b<;>exact .now
 rw[osa_eq,refuse_eq];refine Eu (Eu (I.type.here (Eu (hm.here ?_))));rw[kJ _ ho];refine EF (Eu (I.type.here (Eu ((looks_findIn X ha).here (Eu (L3.here ?_))))));exact h _
theorem vj{E:Value->Shared->Prop}{ox:Obj}{name:Str}{v:Value}{Q:Unit->Shared->Prop}(X:K.In s.heap)(hx:s.heap.get? x=some ox)(hcl:ox.cls=.ref C)(hnc:notCls ox=true)(hdn:ox.dict=none)
  (hs:findIn K (.ref C) "__setattr__"=some (some (.builtin "object.__setattr__"))) (hp:jf K C=true) (ht:takerIn K C name=some none)
  (hq:∀h',(∀b o,b≠x->s.heap.get? b=some o->h'.get? b=some o)->h'.get? x=some {ox with dict:=some s.heap.objs.size}->h'.Ns1 s.heap.objs.size (fun y=>if y=name then some v else none)->∀t',Q () {s with heap:=h',toks:=t'}):
  wpAny (model prog w) A (setAttr (.ref x) name v) Q E s:=by
 have I:InstAt s.heap x ox C none:=⟨hx,hcl,hnc,by rw[hdn];trivial⟩;refine set_plain X I hs ?_;refine p9 (s:={s with toks:=s.toks+1}) X I hp ht fun b=>?_;obtain⟨cd,hc,ho⟩:=any_some hp;obtain⟨_,hd'⟩:=Fj.mp ho;obtain⟨hh,g,d,t,os⟩:=s;obtain⟨oc,odi,oda,osl⟩:=ox;dsimp only at hcl hdn;subst hcl hdn;have hx₁:(hh.push {cls:=.type "dict",data:=.dict #[]}).get? x=some ⟨.ref C,none,oda,osl⟩:=Ex _ hx;have hxs:x≠hh.objs.size:=Fx (EM hx);refine Eu (EF (Eu (Eu (wpAny_loadPart hx (Eu (Looks.here (s:=⟨hh,g,d,t+1,os⟩) (looks_clsIn X hc) ?_))))));rw[hd'];rw[Fb (by decide)];split
 ·rename_i hcd;cases hcd
 rw[Fb (by simp[typeHasDict])];split
 ·rename_i c hcd;rw[show oda=Data.cls c from hcd]at hnc;cases hnc
 refine Eu (wpAny_alloc' ?_);refine Eu (wpAny_update' hx₁ ?_);refine EF ?_;have hgd:((hh.push {cls:=.type "dict",data:=.dict #[]}).update x fun o=>{cls:=o.cls,dict:=some hh.objs.size,data:=o.data,slots:=o.slots}).get? hh.objs.size
   =some {cls:=.type "dict",data:=.dict #[]}:=
  (Heap.get?_update_ne _ _ _ _ hxs.symm).trans (Heap.get?_push_at rfl rfl)
 have hnd:((hh.push {cls:=.type "dict",data:=.dict #[]}).update x fun o=>{cls:=o.cls,dict:=some hh.objs.size,data:=o.data,slots:=o.slots}).Ns hh.objs.size (fun _=>none):=
  ⟨_,#[],_,hgd,rfl,fun e he=>absurd he (by simp),fun _=>rfl⟩
 show wpAny _ _ (storeInDict hh.objs.size (.str name t) name v) _ _ _;unfold storeInDict newKeyGuard;refine Eu (EF (Eu (wpAny_nsSet1 (Heap.Ns1.of_empty hnd) fun h' hn' hs2=>?_)));obtain⟨oD,esD,epD,hoD,hdD,hcD⟩:=hn'.count (Within.cons name v Within.nil);refine Eu (wpAny_lookBehind hoD (by rw[hdD];exact pastItsLine_dict (EX hcD (by rw[ES,FH,sizeLine_eq];omega))) ?_);refine EF (hq h' (fun b ob hbx hb=>?_) ?_ hn' _)
 ·exact(hs2.2 b (Fx (EM hb))).trans ((Heap.get?_update_ne _ _ _ _ hbx).trans (Ex _ hb))
 ·refine(hs2.2 x hxs).trans (FZ _ hx₁ ?_);have hfr:=(Heap.get?_some_iff.mp hx).2;cases oda<;>first|rfl|exact hfr
theorem xC{E:Value->Shared->Prop}{ox:Obj}{dx:Addr}{mA:Str->Option Value}{ns:List Str}{name:Str}{v:Value}{Q:Unit->Shared->Prop}(X:K.In s.heap)(hx:s.heap.get? x=some ox)(hcl:ox.cls=.ref C)(hnc:notCls ox=true)(hdx:ox.dict=some dx)(hns:s.heap.Ns1 dx mA)
  (hs:findIn K (.ref C) "__setattr__"=some (some (.builtin "object.__setattr__"))) (hp:jf K C=true) (ht:takerIn K C name=some none) (hw:Within mA ns) (hsz:ns.length<sizeLine)
  (hq:∀h',(∀b,b≠dx->h'.get? b=s.heap.get? b)->h'.Ns1 dx (fun y=>if y=name then some v else mA y)->∀t',Q () {s with heap:=h',toks:=t'}):
  wpAny (model prog w) A (setAttr (.ref x) name v) Q E s:=by
 obtain⟨od,es0,ep0,hod,_⟩:=id hns;have I:InstAt s.heap x ox C (some od):=⟨hx,hcl,hnc,by rw[hdx];exact hod⟩;refine set_plain X I hs ?_;refine p9 (s:={s with toks:=s.toks+1}) X I hp ht fun b=>?_;obtain⟨cd,hc,ho⟩:=any_some hp;obtain⟨_,hd'⟩:=Fj.mp ho;obtain⟨hh,g,d,t,os⟩:=s;obtain⟨oc,odi,oda,osl⟩:=ox;dsimp only at hcl hdx;subst hcl hdx;refine Eu (EF (Eu (Eu (wpAny_loadPart hx (Eu (Looks.here (s:=⟨hh,g,d,t+1,os⟩) (looks_clsIn X hc) ?_))))));rw[hd'];refine EF (a:=some dx) ?_;show wpAny _ _ (storeInDict dx (.str name t) name v) _ _ _;unfold storeInDict newKeyGuard;refine Eu (EF (Eu (wpAny_nsSet1 hns fun h' hn' hs2=>?_)));obtain⟨oD,esD,epD,hoD,hdD,hcD⟩:=hn'.count (Within.cons name v hw);refine Eu (wpAny_lookBehind hoD (by rw[hdD];exact pastItsLine_dict (EX hcD (by rw[ES];omega))) ?_);exact EF (hq h' (fun b hb=>hs2.2 b hb) hn' _)
end
section
variable{K:Frag}{prog:Program}{w:World}{A:Around}{E:Value->Shared->Prop}{x C dx:Addr}{ox:Obj}{mA:Str->Option Value}{name:Str}{v:Value}
 {hh:Heap} {g:Array GenState} {d:Drawn} {t:Nat} {os:OsState}
theorem vQ{tk:Tok}{Q:Fin->Shared->Prop}(X:K.In hh)(hx:hh.get? x=some ox)(hcl:ox.cls=.ref C)(hnc:notCls ox=true)(hdx:ox.dict=some dx)(hns:hh.Ns1 dx mA)(hv:mA name=some v)
  (hp:jf K C=true) (hna:findIn K (.ref C) name=some none) (hq:Q (.done (.ret v)) ⟨hh,g,d,t,os⟩):
  wpAny (model prog w) A (Builtin.«object.__getattribute__» ⟨[.ref x,.str name tk],[]⟩) Q E ⟨hh,g,d,t,os⟩:=by
 obtain⟨cd,hc,ho⟩:=any_some hp;obtain⟨_,hd'⟩:=Fj.mp ho;unfold Builtin.«object.__getattribute__»
 repeat (first|(with_reducible refine Ff hx ?_;rw[hcl])|(with_reducible refine Looks.here (s:=⟨hh,g,d,t,os⟩) (looks_findIn X hna) ?_)|wp_step)
 split
 ·rename_i c hcd;unfold notCls at hnc;rw[hcd]at hnc;cases hnc
 unfold instanceDict
 repeat (first|(with_reducible refine Ff hx ?_;rw[hcl])|(with_reducible refine Looks.here (s:=⟨hh,g,d,t,os⟩) (looks_clsIn X hc) ?_;rw[hd'])|wp_step)
 rw[hdx]
 repeat (first|(with_reducible refine wpAny_nsGet hns.ns ?_;rw[hv])|wp_step)
 exact hq
theorem yk{tk:Tok}{R:Result->Shared->Prop}(X:K.In hh)(hx:hh.get? x=some ox)(hcl:ox.cls=.ref C)(hnc:notCls ox=true)(hdx:ox.dict=some dx)(hns:hh.Ns1 dx mA)(hv:mA name=some v)
  (hp:jf K C=true) (hna:findIn K (.ref C) name=some none) (hq:R (.ok (.ret v)) ⟨hh,g,d,t,os⟩):
  codeAny (model prog w) A (.call (.builtin "BaseException.__getattribute__") ⟨[.ref x,.str name tk],[]⟩) R ⟨hh,g,d,t,os⟩:=by
 obtain⟨cd,hc,ho⟩:=any_some hp;obtain⟨ho,_⟩:=Fj.mp ho;obtain⟨od,es0,ep0,hod,_⟩:=id hns;have I:InstAt hh x ox C (some od):=⟨hx,hcl,hnc,by rw[hdx];exact hod⟩;have ne:cd.mro.isEmpty=false:=by cases q:cd.mro with|nil=>rw[q]at ho;cases ho|cons _ _=>rfl
 have sub:Looks (model prog w) hh (isInstance (.ref x) (.type "BaseException")) true:=I.type.andThen (looks_mroIn X (by unfold mroIn;rw[hc,Option.bind_some,Fb (by rw[ne];decide),mj rfl ho]));exact FO PySem.F.excAttr_ValueError.ga.plain PySem.F.entry_bexc_ga (@check_slot (model prog w) _ _ ⟨hh,g,d,t,os⟩ "BaseException.__getattribute__" "BaseException" "__getattribute__" (.ref x) [.str name tk] [] _ (by decide+kernel) (by decide+kernel) sub (PySem.F.args_bexc_ga (.ref x) (.str name tk)) (vQ X hx hcl hnc hdx hns hv hp hna hq))
theorem El{expr:Bool}{Q:Value->Shared->Prop}(X:K.In hh)(hx:hh.get? x=some ox)(hcl:ox.cls=.ref C)(hnc:notCls ox=true)(hdx:ox.dict=some dx)(hns:hh.Ns1 dx mA)(hv:mA name=some v)
  (hp:jf K C=true) (hga:findIn K (.ref C) "__getattribute__"=some (some (.builtin "BaseException.__getattribute__"))) (hgt:findIn K (.ref C) "__getattr__"=some none) (hna:findIn K (.ref C) name=some none) (hh':handedOut v=pure v)
  (hq:Q v ⟨hh,g,d,t+1,os⟩):wpAny (model prog w) A (getAttr (.ref x) name expr) Q E ⟨hh,g,d,t,os⟩:=by
 have f3:=PySem.F.excAttr_ValueError.ga.bind (.ref x);have hx0:(expr&&onTheHeap (Value.builtin "BaseException.__getattribute__"))=false:=by cases expr<;>rfl
 have hx2:(Value.builtin "BaseException.__getattribute__"==Value.builtin "object.__getattribute__")=false:=by decide+kernel
 have hx1:(onTheHeap (Value.ref C)&&Value.builtin "BaseException.__getattribute__"==Value.builtin "object.__getattribute__")=false:=by rw[hx2];rfl
 unfold getAttr getAttrBy
 repeat (any_goals (first|assumption|(with_reducible refine Ff hx ?_;rw[hcl])|(with_reducible refine Looks.here (s:=⟨hh,g,d,t+1,os⟩) (looks_findIn X hga) ?_)|(with_reducible refine Looks.here (s:=⟨hh,g,d,t+1,os⟩) (looks_findIn X hgt) ?_)|wp_step))
 refine yk X hx hcl hnc hdx hns hv hp hna ?_;show wpAny _ _ (handedOut v) _ _ _;rw[hh'];exact EF hq
end
end PySem.W
namespace PySem.W
open PySem PySem.Calls PyProof.Rows
theorem vI{K:Frag}{h:Heap}{N:Addr}{mg:Str->Option Value}{n:Str}{v:Value}(X:K.In h)(G:h.Ns N mg)(e:nsIn K N n=some (some v)):mg n=some v:=by
 obtain⟨o,es,ep,ho,hd,_,hf⟩:=G;unfold nsIn at e;split at e
 ·rename_i c d es' n' sl q;have:=X _ _ q;rw[ho]at this;cases this;cases hd;split at e
  ·rename_i en he;cases e;rw[<-hf];unfold nsFind findBy;rw[<-Array.find?_toList,he];rfl
  ·split at e<;>cases e
 ·cases e
noncomputable def BH(K:Frag)(C:Addr)(bmB:List Value)(newId:String)(fI:Addr)(c:Value)(mro:List Value)(ns:Addr)(del:Bool)(sl:Array (Option Value)):Bool:=
 c== .type "type"&&(sl.size==6&&(sl[4]? ==some (some (.builtin newId))&&(mro.head?==some (.ref C)&&(!del&&(tailIn K bmB mro.tail&&(nsOkIn K ns&&nsIn K ns "__init__"==some (some (.ref fI))))))))
noncomputable def jm(K:Frag)(C:Addr)(bmB:List Value)(newId:String)(fI:Addr):Bool:=(K.lookup C).any fun o=>match o.data with
 | .cls cd=>BH K C bmB newId fI o.cls cd.mro cd.ns cd.hasDel o.slots
 |_=>false
theorem BO{α:Type}{l:Array α}{x:α}(h:l.size=6)(e:l[4]?=some x):∃a b c d f,l= #[a,b,c,d,x,f]:=by obtain⟨l⟩:=l;obtain⟨a,l,rfl⟩:=FE h;obtain⟨b,l,rfl⟩:=FE (Fp h);obtain⟨c,l,rfl⟩:=FE (Fp (Fp h));obtain⟨d,l,rfl⟩:=FE (Fp (Fp (Fp h)));obtain⟨y,l,rfl⟩:=FE (Fp (Fp (Fp (Fp h))));obtain⟨f,rfl⟩:=List.length_eq_one_iff.1 (Fp (Fp (Fp (Fp (Fp h)))));cases e;exact⟨a,b,c,d,f,rfl⟩
theorem ka{K:Frag}{h:Heap}{C fI:Addr}(X:K.In h)(z:jm K C vErr4 "ValueError.__new__" fI=true):
  ∃tl N nm qn bs hd sn sub ab col dd k0 k1 k2 k3 k5 mN,h.get? C=some (excClassObj nm qn C N bs tl hd sn sub ab col dd k0 k1 k2 k3 k5 "ValueError.__new__")/\h.Ns N mN/\mN "__init__"=some (.ref fI)/\OwnTail h vErr4 tl/\∀b r,mroIn K C b=some r->(Value.ref C::tl).contains b=r:=by
 unfold jm at z;cases ho:K.lookup C
 case none=>rw[ho]at z;cases z
 case some o=>
  rw[ho]at z;obtain⟨c,dd,da,sl⟩:=o;cases da
  case cls cd=>
   obtain⟨nm,bs,mro,ns,qn,hd,sn,sub,ab,col,del⟩:=cd;have z:BH K C vErr4 "ValueError.__new__" fI c mro ns del sl=true:=z;obtain⟨z1,z⟩:=Fj.1 z;obtain⟨z2,z⟩:=Fj.1 z;obtain⟨z3,z⟩:=Fj.1 z;obtain⟨z4,z⟩:=Fj.1 z;obtain⟨z5,z⟩:=Fj.1 z;obtain⟨z6,z⟩:=Fj.1 z;obtain⟨z7,z8⟩:=Fj.1 z;obtain⟨tl,rfl⟩:=List.head?_eq_some_iff.1 (eq_of_beq z4);obtain⟨k0,k1,k2,k3,k5,rfl⟩:=BO (eq_of_beq z2) (eq_of_beq z3);cases eq_of_beq z1;cases Bool.not_eq_true' _ |>.mp z5;have hN:h.Ns ns _:=.of_isNs (isNs_of_in X z7)
   exact⟨tl,ns,nm,qn,bs,hd,sn,sub,ab,col,dd,k0,k1,k2,k3,k5,_,X _ _ ho,hN,vI X hN (eq_of_beq z8),tail_of_in X z6,fun b r hr=>by
    unfold mroIn clsIn at hr;rw[ho]at hr
    exact Fo hr⟩
  all_goals cases z
section
variable{K:Frag}{prog:Program}{w:World}{A:Around}{E:Value->Shared->Prop}{x C:Addr}{hh:Heap}{g:Array GenState}{d:Drawn}{t:Nat}{os:OsState}
 {nm q:Str} {N:Addr} {bs bm:List Value} {hdct:Bool} {sn:List Str} {sub:List Value} {ab:Bool} {col:Option Bool} {dd:Option Addr} {k0 k1 k2 k3 k5:Option Value} {newId:String}
theorem Dy{t0:Addr}{rest:List Value}{Q:Value->Shared->Prop}(T:OwnTail hh vErr4 bm)(hC:hh.get? C=some (excClassObj nm q C N bs bm hdct sn sub ab col dd k0 k1 k2 k3 k5 "ValueError.__new__"))
  (hx:hh.get? x=some {cls:=.ref C,data:=.fields #[.ref t0,.none,.none,.none,.bool false,.none]})
  (hq:∀h',(∀b o,b≠x->hh.get? b=some o->h'.get? b=some o)->h'.get? x=some {cls:=.ref C,data:=.fields #[.ref hh.objs.size,.none,.none,.none,.bool false,.none]}->Q .none ⟨h',g,d,t,os⟩) (hrest:rest.length<=sizeLine:=by size_fits):
  wpAny (model prog w) A (call (.builtin "ValueError.__init__") (.ref x::rest)) Q E ⟨hh,g,d,t,os⟩:=by
 have F:=PySem.F.excBase_ValueError;refine wpAny_call (FO F.init.plain F.initEntry (wpAny_check_init_subT F T hC hx rfl ?_))
 wp_walk
 have hx₁:(hh.push {cls:=Value.type "tuple",data:=Data.seq rest.toArray}).get? x=some {cls:=.ref C,data:=.fields #[.ref t0,.none,.none,.none,.bool false,.none]}:=Ex _ hx;refine hq _ (fun b o ne e=>?_) ?_
 ·rw[FT _ _ (Gj ne)];exact Ex _ e
 ·rw[FZ _ hx₁ rfl];rfl
end
end PySem.W
namespace L2
open PySem PySem.Spec PyProof.Rows
noncomputable def XO(x C:Addr)(d:Option Addr):HO:=.ext fun h=>∃t0,h.get? x=some {cls:=.ref C,dict:=d,data:=.fields #[.ref t0,.none,.none,.none,.bool false,.none]}
noncomputable def XD(a:Addr)(fs:List (Str×V)):HO:=.ext fun h=>∃mA,h.Ns1 a mA/\(∀f,lT (fs.lookup f) (mA f))/\PySem.Within mA (fs.map (·.1))
section
variable{P:Program}{w:World}{H:Hp}{h:Heap}{x C a:Addr}{d:Option Addr}{fs:List (Str×V)}
theorem yu(e:∃t0,h.get? x=some {cls:=.ref C,dict:=d,data:=.fields #[.ref t0,.none,.none,.none,.bool false,.none]}):cW P w H h x (XO x C d):=by obtain⟨t0,e⟩:=e;exact⟨⟨t0,e⟩,⟨_,e⟩,fun h1 h2 ⟨t,e1⟩ k=>⟨t,k _ e1⟩⟩
theorem BA{mA:Str->Option Value}(n:h.Ns1 a mA)(r:∀f,lT (fs.lookup f) (mA f))(w':PySem.Within mA (fs.map (·.1))):cW P w H h a (XD a fs):=by obtain⟨o,es,ep,e,c⟩:=id n;exact⟨⟨mA,n,r,w'⟩,⟨o,e⟩,fun h1 h2 ⟨mA',⟨o1,es1,ep1,e1,c1⟩,r1,w1⟩ k=>⟨mA',⟨o1,es1,ep1,k _ e1,c1⟩,r1,w1⟩⟩
end
theorem BJ{H:Hp}{a:Addr}{o:HO}(e:H a=some o):upd H a o=H:=by
 funext b;unfold upd;split
 ·rename_i z;rw[z,e]
 ·rfl
section
variable{X:Cx}{pins:List (Addr×Obj)}{σ:St}{H:Hp}{s:Shared}
theorem Inv.trackO{x C:Addr}{d:Option Addr}(I:Inv X pins σ H s)(n1:X.s₀.heap.get? x=none)(u1:H x=none)(p2:∀p∈X.pn++pins,p.1≠x)(p3:∀y c,X.env.cells.lookup y=some c->c≠x)(p4:x≠X.env.locals)
  (e:∃t0,s.heap.get? x=some {cls:=.ref C,dict:=d,data:=.fields #[.ref t0,.none,.none,.none,.bool false,.none]}):Inv X pins σ (upd H x (XO x C d)) s:=by
 have nx:∀b u,H b=some u->b≠x:=fun b u e z=>by rw[z,u1]at e;cases e
 refine⟨I.ok,I.os,I.bare,⟨I.base.keep,I.base.slot,fun b o' e1 n hx=>?_,I.base.there,fun b xs e1=>?_,fun b o' u e1=>?_,fun b ps e1=>?_⟩,I.loc,I.cell,?_,fun y c e1=>?_,fun p hp=>?_,fun b u e1=>?_,I.len⟩
 ·rw[aN (fun z=>by rw[z,n1]at e1;cases e1)];exact I.base.free b o' e1 n hx
 ·have q:=I.base.tups b xs e1;rw[aN (nx b _ q)];exact q
 ·have q:=I.base.frzs b o' u e1;rw[aN (nx b _ q)];exact q
 ·obtain⟨more,q⟩:=I.base.tbls b ps e1;exact⟨more,by rw[aN (nx b _ q)];exact q⟩
 ·rw[aN (Gj p4)];exact I.free
 ·rw[aN (p3 y c e1)];exact I.freeC y c e1
 ·obtain⟨a1,a2,a3⟩:=I.pin p hp;exact⟨a1,by rw[aN (p2 p hp)];exact a2,a3⟩
 ·by_cases hb:b=x
  ·subst hb;rw[ag]at e1;cases e1;exact yu e
  ·rw[aN hb]at e1;refine(I.hok b u e1).stay (fun _ _ _ q=>q) (fun c q=>?_) fun c xs q=>?_
   ·rw[aN (nx c _ q)];exact q
   ·rw[aN (nx c _ q)];exact q
structure Ag(K:Frag)(mg:Str->Option Value)(x:Str)(C fI:Addr):Prop where
 mg:mg x=some (.ref C)
 ok:PySem.W.jm K C PySem.W.vErr4 "ValueError.__new__" fI=true
 fn:PySem.W.isFn K (.ref fI)=true
 kp:keepIn K (.ref C)=true
def yD(C:Addr)(sp:Sp)(E:XK)(t:TA):TE:=fun σ H Q=>t σ H fun vs H1=>vs.length<=sizeLine/\∀x,H1 x=none->sp (.ref x::vs) (upd H1 x (XO x C none)) (fun v H2=>v=.non/\Q (.ref x) H2) E
theorem xJ{CX:CXT}{k:Nat}{f C:Addr}{fd:FuncData}{ps:List Str}{sp:Sp}{E:XK}{c:Str}{Q:VK}{us:List Value}{vs:List V}(M:Ag X.K X.mg c C f)(F:lV X.prog X.w X.K X.mg X.base CX k f fd ps sp)(hr:eA (k+1) X.A)(hb:Binds X.K fd ps [])
  (hx:Passes CX X E) (hex:X.ex=[]) (I:Inv X pins σ H s) (r:Vals vs us) (hl:vs.length<=sizeLine)
  (h:∀x,H x=none->sp (.ref x::vs) (upd H x (XO x C none)) (fun v H2=>v=.non/\Q (.ref x) H2) E):
  wpAny (model X.prog X.w) X.A (call (.ref C) us) (EP X pins σ Q) X.xe s:=by
 obtain⟨tl,N,nm,qn,bs,hdt,sn,sub,ab,col,dd,k0,k1,k2,k3,k5,mN,hC,hN,hi,T,_⟩:=PySem.W.ka I.kIn M.ok;have hx0:us.length<=sizeLine:=by rw[<-r.length];exact hl
 obtain⟨oI,hfI,hfc⟩:∃oI,s.heap.get? f=some oI/\oI.cls=.type "function":=by have z:=beq_iff_eq.mp M.fn;obtain⟨o,ho,hc⟩:=Option.map_eq_some_iff.mp z;exact⟨o,I.kIn _ _ ho,hc⟩
 obtain⟨hp,g,d,tk,os⟩:=s;refine iM (hrest:=hx0) PySem.F.excBase_ValueError T hC hN hi hfI hfc fun h' x hm=>?_;obtain⟨p1,p2,p3,p4⟩:=I.apart hex hm.new;obtain⟨tt,ht,_,_⟩:=hm.there;have I2:=(I.kept (t':=tk) hm.keeps).trackO p1 (I.untr hm.new) p2 p3 p4 ⟨tt,ht⟩;have hq:=h x (I.untr hm.new);have r2:Vals (V.ref x::vs) (Value.ref x::us):=.cons rfl r;have hl2:(Value.ref x::us++[]).length=ps.length:=by have e:=r2.length;rw[F.len _ _ _ _ hq]at e;rw[E2];exact e.symm
 have hb':=hb _ (Value.ref x::us) I2.kIn hl2;rw[E2]at hb';refine wpAny_call (codeAny_mono (F.run _ X.stack _ _ ⟨Value.ref x::us,[]⟩ (Value.ref x::us) _ _ E (hr.make C us []) (I2.env0.make C us []) hb' r2 hq) fun z s' hq'=>?_);cases z with
 |error e=>exact hx pins σ _ _ e s' I2 hq'
 |ok fl=>
  cases fl with
  |ret u=>obtain⟨v,H',I3,rv,ev,q3⟩:=I2.after hq';subst ev;exact⟨rv,⟨V.ref x,H',I3,rfl,q3⟩⟩
  |next=>exact False.elim hq'
  |brk=>exact False.elim hq'
  |cont=>exact False.elim hq'
theorem AK{CX:CXT}{k:Nat}{f C:Addr}{fd:FuncData}{ps:List Str}{sp:Sp}{E:XK}{c:Str}{e:Expr}{es:List Expr}{t:TA}{np pos:Pos}(M:Ag X.K X.mg c C f)(F:lV X.prog X.w X.K X.mg X.base CX k f fd ps sp)(hr:eA (k+1) X.A)(hb:Binds X.K fd ps [])(hx:Passes CX X E)
  (ha:PA X (e::es) t) (hg:Gl X c:=by rfl) (hex:X.ex=[]:=by rfl) (hdb:(c==("__debug__":Str))=false:=by decide) (he:starEach (e::es) X.env=(false,eval e X.env)::starEach es X.env:=by rfl) (hpl:(backTo pos (starEach es X.env)).any (·.1)=false:=by rfl):
  PE X (.Call (.Name c np) (e::es) [] pos) (yD C sp E t):=by
 intro pins s σ H Q I h;refine F9 (kZ I hg M.mg ?_ hdb);refine PySem.W.callWith_K (h₀:=X.base) I.ok.mod.kin M.kp (thn (ha pos pins s σ H _ I h) fun us s1 ⟨vs,H1,I1,r,hl,q⟩=>⟨I1.kIn,?_⟩) he hpl;exact xJ M F hr hb hx hex I1 r hl q
structure Bz(K:Frag)(mg:Str->Option Value)(c:Str)(L:Addr):Prop where
 mg:mg c=some (.ref L)
 rd:PySem.W.readsIn K L (.type "type")=true
 sp:PySem.W.specialIn K (.ref L) "__getattribute__"=some (some (.builtin "type.__getattribute__"))
 fc:PySem.W.findCls K (.ref L) (.type "type") "__init__"=some (.val (.builtin "ValueError.__init__"))
def BM(K:Frag)(t:TA):TE:=fun σ H Q=>t σ H fun vs H1=>∃x C f r,vs=.ref x::r/\r.length<=sizeLine/\H1 x=some (XO x C none)/\PySem.W.jm K C PySem.W.vErr4 "ValueError.__new__" f=true/\Q .non H1
theorem y9{c:Str}{L:Addr}{e:Expr}{es:List Expr}{t:TA}{np apos pos:Pos}{pl:Sem Bool}(Z:Bz X.K X.mg c L)(ha:PA X (e::es) t)(hg:Gl X c:=by rfl)(hdb:(c==("__debug__":Str))=false:=by decide)
  (hst:starEach (e::es) X.env=(false,eval e X.env)::starEach es X.env:=by rfl) (hpl:(backTo pos (starEach es X.env)).any (·.1)=false:=by rfl)
  (ht:eval (.Call (.Attribute (.Name c np) "__init__" apos) (e::es) [] pos) X.env=(do
   let ov <-eval (.Name c np) X.env
   standAt apos.atName
   let (f,first) <-holding [ov] (getMethod ov "__init__" pl)
   callWith pos f first (backTo pos (starEach (e::es) X.env)) (backToKw pos (keywordEach [] X.env))):=by rfl):
  PE X (.Call (.Attribute (.Name c np) "__init__" apos) (e::es) [] pos) (BM X.K t):=by
 intro pins s σ H Q I h;refine PySem.W.methodCall_KW (pl:=pl) (thn (bw (v:=.ref L) hg Z.mg rfl hdb pins s σ H (fun x H1=>x=.ref L/\H1=H) I ⟨rfl,rfl⟩) fun u s1 hPz=>?_) ht;obtain⟨x,H1,I1,rx,ex,eH⟩:=hPz;subst ex eH;obtain rfl:u=Value.ref L:=rx;refine PySem.W.method_cls I1.kIn Z.sp (PySem.W.cls_value I1.kIn Z.rd Z.fc (by decide+kernel) ?_);refine PyProof.Rows.callWith_builtin1 (thn (ha pos pins _ σ _ _ (I1.tok _) h) fun us s2 hPz=>?_) hst hpl;obtain⟨vs,H2,I2,r2,q2⟩:=hPz;obtain⟨x,C,f,r,rfl,hl,hx,ok,q⟩:=q2;obtain⟨u0,us',rfl,r0,r1⟩:∃u0 us',us=u0::us'/\RelV (.ref x) u0/\Vals r us':=by
  cases r2 with
  |cons a b=>exact⟨_,_,rfl,a,b⟩
 obtain rfl:u0=Value.ref x:=r0;obtain⟨tl,N,nm,qn,bs,hdt,sn,sub,ab,col,dd,k0,k1,k2,k3,k5,mN,hC,hN,hi,T,_⟩:=PySem.W.ka I2.kIn ok;obtain⟨t0,ht0⟩:=(I2.hok x _ hx).1;obtain⟨hp,g,d,tk,os⟩:=s2;refine PySem.W.Dy T hC ht0 (fun h' keep e'=>?_) (by rw[<-r1.length];exact hl);have J:=I2.write (x:=x) (e:=x) (o:=XO x C none) (t':=tk) (by rw[hx];trivial) (.inl rfl) keep ⟨_,e'⟩ (yu ⟨_,e'⟩);rw[BJ hx]at J;exact⟨.non,H2,J,rfl,q⟩
theorem pX{fs:List (Str×V)}{mA:Str->Option Value}{f:Str}{y:V}{u:Value}(r:∀g,lT (fs.lookup g) (mA g))(ry:RelV y u):∀g,lT (((f,y)::fs).lookup g) (if g=f then some u else mA g):=fun g=>by
 by_cases z:g=f
 ·subst z;rw[Fl rfl,List.lookup_cons,beq_self_eq_true];exact ry
 ·rw[Fb z,List.lookup_cons,show(g==f)=false from beq_eq_false_iff_ne.mpr z];exact r g
structure CJ(K:Frag)(C:Addr)(f:Str):Prop where
 st:findIn K (.ref C) "__setattr__"=some (some (.builtin "object.__setattr__"))
 pl:PySem.W.jf K C=true
 tk:PySem.W.takerIn K C f=some none
noncomputable def C7 (K : PySem.W.Frag) (ta tv : TE) (f : Str) : TS := fun D σ H => tv σ H fun y H1 => ta σ H1 fun x H2 => ∃ a C, x = .ref a ∧ CJ K C f ∧
  ((H2 a = some (XO a C none) ∧ ∀ dx, H2 dx = none → dx ≠ a → D.nx σ (upd (upd H2 a (XO a C (some dx))) dx (XD dx [(f, y)]))) ∨
   (∃ dx fs, H2 a = some (XO a C (some dx)) ∧ H2 dx = some (XD dx fs) ∧ fs.length ≤ 100 ∧ D.nx σ (upd H2 dx (XD dx ((f, y) :: fs)))))
theorem AE{o value:Expr}{f:Str}{pos pos':Pos}{ta tv:TE}(ha:PE X o ta)(hv:PE X value tv)(hs:swapsWith value (some (.Attribute o f pos')) pos.line X.env=pure false:=by rfl):PS X (.Assign [.Attribute o f pos'] value pos) (C7 X.K ta tv f):=by
 intro pins s σ H D I h;refine plainObj_wpAny_Assign_Attribute (thn (hv pins s σ H _ I h) fun u s1 hPz=>L2.ep3 hPz fun y H1 I1 ry q=>thn (ha pins s1 σ H1 _ I1 q) fun ov s2 hPz=>?_) hs;obtain⟨x,H2,I2,rx,a,C,ex,F,alt⟩:=hPz;subst ex;obtain rfl:ov=Value.ref a:=rx;rcases alt with⟨hx,q⟩|⟨dx,fs,hx,hd,hlen,q⟩
 ·obtain⟨t0,ht0⟩:=(I2.hok a _ hx).1;refine PySem.W.vj I2.kIn ht0 rfl rfl rfl F.st F.pl F.tk fun h' keep e' n t'=>?_;have hm:(s2.heap.update a fun o=>{o with dict:=some s2.heap.objs.size}).get? a=some {cls:=.ref C,dict:=some s2.heap.objs.size,data:=.fields #[.ref t0,.none,.none,.none,.bool false,.none]}:=FZ _ ht0 rfl;have J1:=I2.write (h':=s2.heap.update a fun o=>{o with dict:=some s2.heap.objs.size}) (x:=a) (e:=a) (o:=XO a C (some s2.heap.objs.size)) (t':=t') (by rw[hx];trivial) (.inl rfl) (fun b u' ne e=>by rw[FT _ _ (Gj ne)];exact e) ⟨_,hm⟩ (yu ⟨_,hm⟩);have hf:=I2.hok.fresh (EG s2.heap.objs.size);have J2:=J1.laid (h':=h') (a:=s2.heap.objs.size) (o:=XD s2.heap.objs.size [(f,y)]) (t':=t') (fun b u' e=>?_) (by show(s2.heap.update a _).objs.size<=_;rw[Heap.size_update];exact EG _) (BA n (pX (fs:=[]) (fun g=>trivial) ry) (PySem.Within.cons f u PySem.Within.nil))
  ·exact⟨σ,_,J2,q _ hf (fun z=>by rw[z,hx]at hf;cases hf)⟩
  ·by_cases hb:b=a
   ·subst hb;have e2:=hm.symm.trans e;cases e2;exact e'
   ·refine keep b u' hb ?_;have e2:(s2.heap.update a fun o=>{o with dict:=some s2.heap.objs.size}).get? b=some u':=e;rw[FT _ _ (Gj hb)]at e2;exact e2
 ·obtain⟨t0,ht0⟩:=(I2.hok a _ hx).1;obtain⟨mA,n0,r0,w0⟩:=(I2.hok dx _ hd).1;refine PySem.W.xC I2.kIn ht0 rfl rfl rfl n0 F.st F.pl F.tk w0 (by rw[Ew];exact aM (by omega)) fun h' keep n t'=>?_;have J:=I2.write (x:=dx) (e:=dx) (o:=XD dx ((f,y)::fs)) (t':=t') (by rw[hd];trivial) (.inl rfl) (fun b u ne e=>by rw[keep b ne];exact e) (by obtain⟨o,es,ep,e,_⟩:=n;exact⟨o,e⟩) (BA n ?_ ?_)
  ·exact⟨σ,_,J,q⟩
  ·exact pX r0 ry
  ·exact PySem.Within.cons f u w0
structure RdX(K:Frag)(C:Addr)(f:Str):Prop where
 pl:PySem.W.jf K C=true
 ga:findIn K (.ref C) "__getattribute__"=some (some (.builtin "BaseException.__getattribute__"))
 gt:findIn K (.ref C) "__getattr__"=some none
 na:findIn K (.ref C) f=some none
end
end L2
namespace L2
open PySem PySem.Spec PyProof.Rows LM
structure wj(mg:Str->Option Value)(x:Str)(C:Addr):Prop where
 mg:mg x=some (.ref C)
theorem uJ{mg:Str->Option Value}{x:Str}{C:Addr}(Z:wj mg x C):vX mg x=.ref C:=by unfold vX;rw[Z.mg];rfl
def BN(C:Addr)(f:Str):Sp:=fun vs H Q _=>∃x tv v,vs=[.ref x,tv,v]/\H x=some (XO x C none)/\∀dx,H dx=none->dx≠x->Q .non (upd (upd H x (XO x C (some dx))) dx (XD dx [(f,v)]))
section
variable{P:Program}{w:World}{K:Frag}{mg:Str->Option Value}{base:Heap}
structure TxX(K:Frag)(mg:Str->Option Value)(c:Str)(C:Addr)(st:Stmt)(ps:List Str)(qual:Str):Prop where
 ex:∃f fd,Ag K mg c C f/\Fun K "__init__" qual st f fd/\Binds K fd ps []
structure DfX(P:Program)(w:World)(K:Frag)(mg:Str->Option Value)(base:Heap)(k:Nat)(c:Str)(C:Addr)(ps:List Str)(sp:Sp):Prop where
 ex:∃f fd,Ag K mg c C f/\lV P w K mg base CX0 k f fd ps sp/\Binds K fd ps []
theorem TxX.df{c qual:Str}{C:Addr}{st:Stmt}{N ps:List Str}{k:Nat}{sp:Sp}(T:TxX K mg c C st ps qual)(S:ay N ps (ao st))(len:∀vs H Q E,sp vs H Q E->vs.length=ps.length)
  (hbody:∀(f:Addr)(cdv:Value)(A:Around)(outer:List Env)(s:Shared)(H:Hp)(vs:List V)(Q:VK)(E:XK),Ag K mg c C f->eA k (A.deeper (envOfC qual (ao st) s.heap.objs.size f cdv))->sp vs H Q E->
   ∃t,PSs (iz CX0 P w K mg base N qual (ao st) f cdv A outer s H E).nox (dq st) t/\t {nx:=fun _ H'=>Q .non H',rt:=Q} (start N vs) H):DfX P w K mg base (k+1) c C ps sp:=by
 obtain⟨f,fd,M,F,b⟩:=T.ex;exact⟨f,fd,M,F.ok S len fun cdv A outer s H vs Q E hr h=>hbody f cdv A outer s H vs Q E M hr h,b⟩
theorem BK{h:Heap}{c qual:Str}{C f:Addr}{st:Stmt}{ps:List Str}{oc:Value}{od an:Option Addr}{osl:Array (Option Value)}{kV doc pm cdv ct:Value}(X:K.In h)(G:h.Ns mainGlobals mg)
  (a:nsIn K mainGlobals c=some (some (.ref C))) (fi:findIn K (.ref C) "__init__"=some (some (.ref f))) (fn:PySem.W.isFn K (.ref f)=true) (kp:keepIn K (.ref C)=true)
  (l:K.lookup f=some ⟨oc,od,.func (fnOf "__init__" qual (fN st) (dq st) (ao st) .none kV doc pm an cdv ct),osl⟩)
  (cd:codeIn K cdv qual=true) (k:keepIn K (.ref f)=true) (ok:PySem.W.jm K C PySem.W.vErr4 "ValueError.__new__" f=true)
  (hb:∀(kV doc pm:Value)(an:Option Addr)(cdv ct:Value)(us:List Value),us.length=ps.length->bindArgs (fnOf "__init__" qual (fN st) (dq st) (ao st) .none kV doc pm an cdv ct) ⟨us,[]⟩=pure (ps.zip us)):TxX K mg c C st ps qual:=
 ⟨f,_,⟨FW X G a,ok,fn,kp⟩,rS l cd k,(rS l cd k).binds hb⟩
theorem Bs{h:Heap}{c:Str}{L:Addr}(X:K.In h)(G:h.Ns mainGlobals mg)(a:nsIn K mainGlobals c=some (some (.ref L)))(rd:PySem.W.readsIn K L (.type "type")=true)
 (sp:PySem.W.specialIn K (.ref L) "__getattribute__"=some (some (.builtin "type.__getattribute__"))) (fc:PySem.W.findCls K (.ref L) (.type "type") "__init__"=some (.val (.builtin "ValueError.__init__"))):Bz K mg c L:=⟨FW X G a,rd,sp,fc⟩
theorem xk{h:Heap}{c:Str}{C:Addr}(X:K.In h)(G:h.Ns mainGlobals mg)(a:nsIn K mainGlobals c=some (some (.ref C))):wj mg c C:=⟨FW X G a⟩
end
section
variable{X:Cx}
theorem za{j k:Nat}{c:Str}{C:Addr}{ps:List Str}{sp:Sp}{np pos:Pos}{e:Expr}{es:List Expr}{t:TA}(D:DfX X.prog X.w X.K X.mg X.base j c C ps sp)(hr:eA k X.A)(ha:PA X (e::es) t)(hg:Gl X c:=by rfl)(hj:j+1<=k:=by decide)(hex:X.ex=[]:=by rfl)
  (hdb:(c==("__debug__":Str))=false:=by decide) (he:starEach (e::es) X.env=(false,eval e X.env)::starEach es X.env:=by rfl) (hpl:(backTo pos (starEach es X.env)).any (·.1)=false:=by rfl):
  PE X (.Call (.Name c np) (e::es) [] pos) (yD C sp E0 t):=by
 obtain⟨f,fd,M,F,b⟩:=D.ex;exact AK M F (hr.mono hj) b zb ha hg hex hdb he hpl
end
end L2
namespace L2
open PySem
noncomputable def Bt(s:Stmt):List Stmt:=match s with
 | .ClassDef _ _ _ b _ _ _ _ _ _ _=>b
 |_=>[]
end L2
namespace L2
open PySem PySem.Spec PyProof.Rows LM
theorem mF{ds:List PyData}{i:Nat}{d:PyData}(e:ds[i]?=some d):d.depth<=PyData.depthAll ds:=by
 induction ds generalizing i with
 |nil=>simp at e
 |cons c ds ih=>
  show d.depth<=max c.depth (PyData.depthAll ds);cases i with
  |zero=>simp at e;subst e;omega
  |succ i=>rw[FJ]at e;have:=ih e;omega
end L2
namespace L2
open PySem PySem.Spec PyProof.Rows
noncomputable def qF(f:Int×Int):Rat:=(f.1:Rat) / (f.2:Rat)
theorem lP{b:Int}(h:0<b):(b:Rat)≠0:=fun z=>by have:b=0:=Rat.intCast_inj.mp z;omega
theorem Dj{f g:Int×Int}(hf:0<f.2)(hg:0<g.2):qF f=qF g<->f.1*g.2=g.1*f.2:=by
 have a:=lP hf;have b:=lP hg;unfold qF;constructor
 ·intro e;apply Rat.intCast_inj.mp;rw[Gd,Gd];grind
 ·intro e;have:(f.1:Rat)*(g.2:Rat)=(g.1:Rat)*(f.2:Rat):=by rw[<-Gd,<-Gd,e]
  grind
theorem yR{t b:Int}(h:0<b):qF (Ct t b)=(t:Rat) / (b:Rat):=by
 have:=(Dj (f:=Ct t b) (g:=(t,b)) (Bm t h).pos h).mpr (by
  show frT t b*b=t*frB t b
  rw[k7,Int.mul_comm])
 exact this
theorem Eg{f g:Int×Int}(hf:kf f)(hg:kf g)(e:qF f=qF g):f=g:=by have:=(Dj hf.pos hg.pos).mp e;have u:=uI hf.cop hg.cop hf.pos hg.pos (by rw[this,Int.mul_comm]);exact Prod.ext u.1 u.2
theorem BX:qF (0,1)=0:=by
 unfold qF;have:(0:Rat) / 1=0:=by grind
 exact this
theorem Di:qF (1,1)=1:=by
 unfold qF;have:(1:Rat) / 1=1:=by grind
 exact this
theorem BY{f g:Int×Int}(hf:0<f.2)(hg:0<g.2):qF (eC f g)=qF f+qF g:=by have a:=lP hf;have b:=lP hg;have e:qF (eC f g)=_:=yR (t:=f.1*g.2+g.1*f.2) (Int.mul_pos hf hg);rw[e,Rat.intCast_add,Gd,Gd,Gd];unfold qF;grind
theorem BE:∀{l:List (Int×Int)}{a:Int×Int},kf a->(∀f∈l,kf f)->qF (l.foldl eC a)=qF a+(l.map qF).sum/\kf (l.foldl eC a)
 | [],a,ha,_=>⟨by show qF a=qF a+0;grind,ha⟩
 |f::l,a,ha,h=>by have hf:=h f (Fg ..);have ih:=BE (l:=l) (kO ha.pos hf.pos) (fun g hg=>h g (EZ _ hg));refine⟨?_,ih.2⟩;rw[List.foldl_cons,ih.1,BY ha.pos hf.pos,Fe,List.sum_cons];grind
theorem yQ{l:List (Int×Int)}(h:∀f∈l,kf f):qF (sumF l)=(l.map qF).sum/\kf (sumF l):=by have:=BE (l:=l) qc h;refine⟨?_,this.2⟩;have e:=this.1;rw[BX]at e;unfold sumF;rw[e];grind
noncomputable def xx(S:Sh):Rat:=(S.map fun p=>qF p.2).sum
theorem yA:xx []=0:=rfl
theorem xw(p:Str×Int×Int)(S:Sh):xx (p::S)=qF p.2+xx S:=by unfold xx;rw[Fe,List.sum_cons]
theorem xv{S:Sh}(h:∀p∈S,kf p.2):qF (sumF (S.map (·.2)))=xx S:=by
 have:=(yQ (l:=S.map (·.2)) fun f hf=>by
  obtain⟨p,hp,rfl⟩:=FX.mp hf
  exact h p hp).1
 rw[this,List.map_map];rfl
end L2
namespace L2
open PySem PySem.W
theorem ar{X:Cx}{body:List Stmt}{Z:TS->Prop}(n:Nat){u:TS}(r:PSs X (body.drop n) u)(k:let R:=u;PSs X (body.drop n) R->∃t,PSs X body t/\Z t):∃t,PSs X body t/\Z t:=k r
theorem bq{X:Cx}{body:List Stmt}{Z:TS->Prop}(k:let Y:=X;∃t,PSs Y body t/\Z t):∃t,PSs X body t/\Z t:=k
theorem Du{P:List Value->Prop}(h:∀a0,P [a0])(us:List Value)(hl:us.length=1):P us:=by
 cases us with
 |nil=>cases hl
 |cons a0 us=>exact(show P (a0::us)from by cases us with|nil=>exact h a0|cons b us=>cases hl)
theorem Dt{P:List Value->Prop}(h:∀a0 a1,P [a0,a1])(us:List Value)(hl:us.length=2):P us:=by
 cases us with
 |nil=>cases hl
 |cons a0 us=>exact Du (P:=fun us=>P (a0::us)) (h a0) us (Fp hl)
theorem Ds{P:List Value->Prop}(h:∀a0 a1 a2,P [a0,a1,a2])(us:List Value)(hl:us.length=3):P us:=by
 cases us with
 |nil=>cases hl
 |cons a0 us=>exact Dt (P:=fun us=>P (a0::us)) (h a0) us (Fp hl)
theorem Dr{P:List Value->Prop}(h:∀a0 a1 a2 a3,P [a0,a1,a2,a3])(us:List Value)(hl:us.length=4):P us:=by
 cases us with
 |nil=>cases hl
 |cons a0 us=>exact Ds (P:=fun us=>P (a0::us)) (h a0) us (Fp hl)
theorem Dq{P:List Value->Prop}(h:∀a0 a1 a2 a3 a4,P [a0,a1,a2,a3,a4])(us:List Value)(hl:us.length=5):P us:=by
 cases us with
 |nil=>cases hl
 |cons a0 us=>exact Dr (P:=fun us=>P (a0::us)) (h a0) us (Fp hl)
theorem Dp{P:List Value->Prop}(h:∀a0 a1 a2 a3 a4 a5,P [a0,a1,a2,a3,a4,a5])(us:List Value)(hl:us.length=6):P us:=by
 cases us with
 |nil=>cases hl
 |cons a0 us=>exact Dq (P:=fun us=>P (a0::us)) (h a0) us (Fp hl)
theorem Eh{P:List Value->Prop}(h:∀a0 a1 a2 a3 a4 a5 a6,P [a0,a1,a2,a3,a4,a5,a6])(us:List Value)(hl:us.length=7):P us:=by
 cases us with
 |nil=>cases hl
 |cons a0 us=>exact Dp (P:=fun us=>P (a0::us)) (h a0) us (Fp hl)
end L2
namespace L2
open PySem PySem.Spec PyProof.Rows
noncomputable abbrev wSh(L:Ws):Sh:=L.map fun p=>(p.1,frT p.2 (gW L),frB p.2 (gW L))
theorem wx{t:Int}(ht:0<t):∀L:Ws,xx (L.map fun p=>(p.1,frT p.2 t,frB p.2 t))=(((L.map (·.2)).sum:Int):Rat) / (t:Rat)
 | []=>by rw[FY,yA];show(0:Rat)=((0:Int):Rat) / _;grind
 |p::L=>by rw[Fe,xw,wx ht L,Fe,List.sum_cons,Rat.intCast_add];have e:qF (frT p.2 t,frB p.2 t)=(p.2:Rat) / (t:Rat):=yR ht;show qF (frT p.2 t,frB p.2 t)+_=_;rw[e];grind
theorem Bq{x:V}{r:List V}:jq (x::r) (some 1) none=r:=by
 unfold jq;rw[HT.yK,show HT.sIx (x::r).length 0 (some 1)=min 1 (x::r).length from HT.Ay _ _ 1];have:min 1 (x::r).length=1:=by rw[ES];omega
 rw[this];simp
theorem sX:∀{ws:List Int},(∀x∈ws,0<x)->ws≠[]->0<ws.sum
 | [x],h,_=>by have:=h x (by simp);simpa using this
 |x::y::ws,h,_=>by have a:=h x (Fg ..);have b:=sX (ws:=y::ws) (fun z hz=>h z (EZ _ hz)) (by simp);rw[List.sum_cons];omega
def sj(K:Frag)(C:Addr):Prop:=∃fI,PySem.W.jm K C PySem.W.vErr4 "ValueError.__new__" fI=true
theorem nI{K:Frag}{h:Heap}{C:Addr}(X:K.In h)(z:sj K C):
  ∃tl N nm qn bs hd sn sub ab col dd k0 k1 k2 k3 k5,h.get? C=some (excClassObj nm qn C N bs tl hd sn sub ab col dd k0 k1 k2 k3 k5 "ValueError.__new__")/\OwnTail h vErr tl/\∀b r,mroIn K C b=some r->(Value.ref C::tl).contains b=r:=by
 obtain⟨fI,z⟩:=z;obtain⟨tl,N,nm,qn,bs,hd,sn,sub,ab,col,dd,k0,k1,k2,k3,k5,mN,h1,_,_,h4,h5⟩:=PySem.W.ka X z;exact⟨tl,N,nm,qn,bs,hd,sn,sub,ab,col,dd,k0,k1,k2,k3,k5,h1,h4,h5⟩
def pw(h:Heap)(x:Addr)(od:Option Addr):Prop:=∃o,h.get? x=some o/\o.dict=od
theorem pw.kp{h h':Heap}{x:Addr}{od:Option Addr}(d:pw h x od)(k:DKp h h'):pw h' x od:=by obtain⟨o,e,ed⟩:=d;obtain⟨o',e',ed',_⟩:=k x o e;exact⟨o',e',ed'.trans ed⟩
noncomputable def CXn(P:Program)(w:World):CXT:=fun outer H s E e s'=>∃x C T H' a0 od,e=.ref x/\s'.os=s.os/\AllBare s'.gens/\Un (frs outer) [] H H' s.heap s'.heap/\HOk P w H' s'.heap/\
 s.heap.get? x=none/\s.heap.get? T=none/\H' x=none/\H' T=none/\Trc s'.heap x T (.ref C) a0/\pw s'.heap x od/\E (.ref C) od H'
noncomputable def lb(H:Hp)(x:Addr):Hp:=fun b=>if b=x then none else H b
theorem la(H:Hp)(x:Addr):lb H x x=none:=Fl rfl
theorem fw{H:Hp}{x b:Addr}(h:b≠x):lb H x b=H b:=Fb h
section
variable{X:Cx}{pins:List (Addr×Obj)}{σ:St}{H:Hp}{s:Shared}
theorem Inv.untrackO{x C:Addr}{d:Option Addr}(I:Inv X pins σ H s)(hx:H x=some (XO x C d)):Inv X pins σ (lb H x) s:=by
 have nt:∀b xs,H b=some (.tup xs)->b≠x:=fun b xs e z=>by rw[z,hx]at e;cases e
 have no:∀b y,H b=some (.own y)->b≠x:=fun b y e z=>by rw[z,hx]at e;cases e
 have dn:∀b,H b=none->lb H x b=none:=fun b e=>by
  unfold lb;split
  ·rfl
  ·exact e
 refine⟨I.ok,I.os,I.bare,⟨I.base.keep,I.base.slot,fun b o' e1 n hx'=>dn b (I.base.free b o' e1 n hx'),I.base.there,fun b xs e1=>?_,fun b o' u e1=>?_,fun b ps e1=>?_⟩,I.loc,I.cell,dn _ I.free,fun y c e1=>dn _ (I.freeC y c e1),fun p hp=>?_,fun b u e1=>?_,I.len⟩
 ·have q:=I.base.tups b xs e1;rw[fw (nt b _ q)];exact q
 ·have q:=I.base.frzs b o' u e1;rw[fw (fun z=>by rw[z,hx]at q;cases q)];exact q
 ·obtain⟨more,q⟩:=I.base.tbls b ps e1;exact⟨more,by rw[fw (fun z=>by rw[z,hx]at q;cases q)];exact q⟩
 ·obtain⟨a1,a2,a3⟩:=I.pin p hp;exact⟨a1,dn _ a2,a3⟩
 ·by_cases hb:b=x
  ·rw[hb,la]at e1;cases e1
  ·rw[fw hb]at e1;refine(I.hok b u e1).stay (fun _ _ _ q=>q) (fun c q=>?_) fun c xs q=>?_
   ·rw[fw (no c _ q)];exact q
   ·rw[fw (nt c _ q)];exact q
theorem Inv.new{x:Addr}{o:HO}(I:Inv X pins σ H s)(hex:X.ex=[])(hx:H x=some o)(h0:X.H₀ x=none):X.s₀.heap.get? x=none:=by
 cases q:X.s₀.heap.get? x with
 |none=>rfl
 |some ob=>have:=I.base.free x ob q h0 (by rw[hex];simp);rw[hx]at this;cases this
end
section
variable{P:Program}{w:World}{K:Frag}{mg:Str->Option Value}{base:Heap}{N:List Str}{qual:Str}{scope:Scope}{f:Addr}{cd:Value}{A:Around}{outer:List Env}{s:Shared}{H:Hp}{E:XK}
 {pins:List (Addr×Obj)} {σ:St}
theorem wm{x C:Addr}{od:Option Addr}{H1:Hp}{s1:Shared}(I:Inv (iz (CXn P w) P w K mg base N qual scope f cd A outer s H E) pins σ H1 s1)(hx:H1 x=some (XO x C od))(h0:H x=none)(ee:E (.ref C) od (lb H1 x)):
  (iz (CXn P w) P w K mg base N qual scope f cd A outer s H E).xe (.ref x) s1:=by
 obtain⟨t0,ht0⟩:=(I.hok x _ hx).1;have I1:=I.untrackO hx;have p1:s.heap.get? x=none:=I.new rfl hx h0;have p2:∀p∈(iz (CXn P w) P w K mg base N qual scope f cd A outer s H E).pn++pins,p.1≠x:=fun p hp z=>by have:=(I.pin p hp).2.1;rw[z,hx]at this;cases this
 have p3:∀y c,(iz (CXn P w) P w K mg base N qual scope f cd A outer s H E).env.cells.lookup y=some c->c≠x:=fun y c e z=>by have:=I.freeC y c e;rw[z,hx]at this;cases this
 have p4:x≠(iz (CXn P w) P w K mg base N qual scope f cd A outer s H E).env.locals:=fun z=>by have:=I.free;rw[<-z,hx]at this;cases this
 refine E6 ((kY _ _).any (wpAny_leaving_firstW (Q:=fun _ s4=>∃h',s4={s1 with heap:=h'}/\Heap.LeftW (PySem.W.hideAll s1.heap (frs (envOfC qual scope s.heap.objs.size f cd::outer)++[x])) (envOfC qual scope s.heap.objs.size f cd::outer) x (.ref C) (.ref t0) s1.heap h')
  (base:=PySem.W.hideAll s1.heap (frs (envOfC qual scope s.heap.objs.size f cd::outer)++[x])) (outer:=outer) I.ok.frames (PySem.W.funFrames_hide I.stack fun env he a ha=>Fc _ (List.mem_filterMap.mpr ⟨env,he,ha⟩)) rfl ht0 (fun b o q=>PySem.W.of_hideAll _ q) (PySem.W.hideAll_none _ (by simp)) rfl rfl rfl fun h' hL=>⟨h',rfl,hL⟩)) (fun _ s4 z=>?_) fun _ _ z=>z.1
 obtain⟨⟨h',rfl,k1,k2,k3,k4⟩,dk⟩:=z
 have J:Inv (iz (CXn P w) P w K mg base N qual scope f cd A outer s H E) pins σ (lb H1 x) {s1 with heap:=h',toks:=s1.toks}:=I1.flown (ch:=[x]) (fun b hb=>by
   rw[Fy]at hb;subst hb;exact⟨p1,la _ _,p4,p3,p2⟩)
  (fun b o hb hc e'=>k1 b o (PySem.W.hideAll_get _ e' fun z=>by
   rcases Ft.mp z with q|q
   ·exact hb q
   ·exact hc q)) (fun b o hb e'=>by
  obtain⟨_,o',ho,hnf⟩:=I.stack.mem hb;rw[e']at ho;cases ho
  exact k4 b o e' hnf)
 obtain⟨T',t',q1,q2⟩:=nK I1 rfl rfl (as:=[x]) (fun b hb=>by rw[Fy]at hb;subst hb;exact⟨p1,la _ _⟩) (fun b hb=>by obtain⟨_,o,ho,nf⟩:=J.stack.mem hb;exact⟨o,ho,nf⟩) k3;exact⟨x,C,T',lb H1 x,_,od,rfl,J.os,J.bare,J.base,J.hok,p1,q1,la _ _,q2,t',pw.kp ⟨_,ht0,rfl⟩ dk,ee⟩
end
section
variable{M:Model}{A:Around}{E:Value->Shared->Prop}{env:Env}{s:Shared}
theorem vq{x:Sem Value}{Q:Flow->Shared->Prop}(hh:A.handled=none)
  (h:wpAny M A x (fun v s1=>∃e t d C tl N nm qn bs hd sn sub ab col dd k0 k1 k2 k3 k5,v=.ref e/\s1.heap.get? C=some (excClassObj nm qn C N bs tl hd sn sub ab col dd k0 k1 k2 k3 k5 "ValueError.__new__")/\tl.contains (.type "BaseException")=true/\
   s1.heap.get? e=some {cls:=.ref C,dict:=d,data:=.fields #[.ref t,.none,.none,.none,.bool false,.none]}/\E (.ref e) s1) E s):wpAny M A (raiseStmt env (some x) none) Q E s:=by
 unfold raiseStmt;refine Eu (E6 h (fun v s1 h1=>?_) fun _ _ z=>z);obtain⟨e,t,d,C,tl,N,nm,qn,bs,hd,sn,sub,ab,col,dd,k0,k1,k2,k3,k5,rfl,hC,hb,he,hE⟩:=h1;have hcB:(Value.ref C::tl).contains (.type "BaseException")=true:=by rw[List.contains_cons,hb,Bool.or_true]
 obtain⟨hp,g,dr,tk,os⟩:=s1
 repeat (first|with_reducible refine Ff he ?_|with_reducible refine Ff hC ?_|(with_reducible refine wpAny_isSubtype_exc hC ?_;rw[hcB])|wp_step)
 exact wpAny_raiseNew_none hh hE
end
section
variable{X:Cx}
def DT(K:Frag)(t:TE)(W:Addr->Value->Option Addr->Hp->Prop):TS:=fun _ σ H=>t σ H fun v H1=>∃x C od,v=.ref x/\H1 x=some (XO x C od)/\sj K C/\W x (.ref C) od H1
theorem pY{e:Expr}{t:TE}{pos:Pos}{W:Addr->Value->Option Addr->Hp->Prop}(hc:X.calm=true)(he:PE X e t)
  (hw:∀pins σ H1 s1 x C od,Inv X pins σ H1 s1->H1 x=some (XO x C od)->W x (.ref C) od H1->X.xe (.ref x) s1):PS X (.Raise (some e) none pos) (DT X.K t W):=by
 intro pins s σ H D I h;rw[arm_exec_Raise];refine Eu (wpAny_standAt (vq (I.ok.hd hc) ?_));refine Eu (E6 (he pins s σ H _ I h) (fun v s1 z=>Eu (wpAny_standAt (EF ?_))) fun _ _ z=>z);obtain⟨x,H1,I1,rv,a,C,od,rfl,hx,Z,q⟩:=z;cases rv;obtain⟨t0,ht0⟩:=(I1.hok a _ hx).1;obtain⟨tl,N,nm,qn,bs,hd,sn,sub,ab,col,dd,k0,k1,k2,k3,k5,hC,T,_⟩:=nI I1.kIn Z;exact⟨a,t0,od,C,tl,N,nm,qn,bs,hd,sn,sub,ab,col,dd,k0,k1,k2,k3,k5,rfl,hC,T.hasType rfl,ht0,hw pins σ H1 s1 a C od I1 hx q⟩
def RzW(H0:Hp)(E:XK):Addr->Value->Option Addr->Hp->Prop:=fun x cls od H1=>H0 x=none/\E cls od (lb H1 x)
structure DfN(P:Program)(w:World)(K:Frag)(mg:Str->Option Value)(base:Heap)(k:Nat)(x:Str)(ps:List Str)(sp:Sp):Prop where
 ex:∃f fd,lV P w K mg base (CXn P w) k f fd ps sp/\Binds K fd ps []/\mg x=some (.ref f)/\keepIn K (.ref f)=true
theorem Tx.dfN{P:Program}{w:World}{K:Frag}{mg:Str->Option Value}{base:Heap}{x:Str}{st:Stmt}{N ps:List Str}{k:Nat}{sp:Sp}(T:Tx K mg x st ps)(S:ay N ps (ao st))
  (len:∀vs H Q E,sp vs H Q E->vs.length=ps.length)
  (hbody:∀(f:Addr)(cdv:Value)(A:Around)(outer:List Env)(s:Shared)(H:Hp)(vs:List V)(Q:VK)(E:XK),eA k (A.deeper (envOfC x (ao st) s.heap.objs.size f cdv))->sp vs H Q E->
   ∃t,PSs (iz (CXn P w) P w K mg base N x (ao st) f cdv A outer s H E) (dq st) t/\t {nx:=fun _ H'=>Q .non H',rt:=Q} (start N vs) H):DfN P w K mg base (k+1) x ps sp:=by
 obtain⟨f,fd,F,b,hm⟩:=T.ex;obtain⟨oc,od,kV,doc,pm,an,cdv,ct,osl,rfl,lk,hcd⟩:=id F.ex;exact⟨f,_,zK lk hcd S len fun A outer s H vs Q E hr h=>hbody f cdv A outer s H vs Q E hr h,b,hm,F.kp⟩
theorem B4{j k:Nat}{x:Str}{ps:List Str}{sp:Sp}{E:XK}{p pos:Pos}{e:Expr}{es:List Expr}{t:TA}(D:DfN X.prog X.w X.K X.mg X.base j x ps sp)(hr:eA k X.A)(hx:Passes (CXn X.prog X.w) X E)(ha:PA X (e::es) t)(hg:Gl X x:=by rfl)(hj:j<=k:=by decide)
  (hdb:(x==("__debug__":Str))=false:=by decide) (he:starEach (e::es) X.env=(false,eval e X.env)::starEach es X.env:=by rfl) (hpl:(backTo pos (starEach es X.env)).any (·.1)=false:=by rfl):
  PE X (.Call (.Name x p) (e::es) [] pos) (tCE sp E t):=by
 obtain⟨f,fd,F,b,hm,kp⟩:=D.ex;have h:=wK (ds:=[]) (dvs:=[]) (E:=E) (p:=p) (pos:=pos) F (hr.mono hj) hg hm kp b .nil hx ha hdb he hpl;have e1:sW sp [] E t=tCE sp E t:=by funext σ H Q;unfold sW tCE;simp only[E2]
 rw[e1]at h;exact h
end
def XBn(X:Cx)(pins:List (Addr×Obj))(W:XK):Value->Shared->Prop:=fun e s'=>∃x C T σ' H2 s2 H' a0 od,e=.ref x/\Inv X pins σ' H2 s2/\s2.heap.get? x=none/\s2.heap.get? T=none/\Inv X pins σ' H' s'/\
 Trc s'.heap x T (.ref C) a0/\H' x=none/\H' T=none/\pw s'.heap x od/\W (.ref C) od H'
noncomputable abbrev Cx.triedN(X:Cx)(pins:List (Addr×Obj))(W:XK):Cx:={X with pn:=X.pn++pins,xe:=XBn X pins W}
structure Af(K:Frag)(mg:Str->Option Value)(c:Str)(C:Addr):Prop where
 ok:sj K C
 ex:∃C',mg c=some (.ref C')/\sj K C'/\mroIn K C (.ref C')=some true
noncomputable def XN(x C:Addr)(od:Option Addr):HO:=.ext fun h=>∃o vs,h.get? x=some o/\o.cls=.ref C/\o.dict=od/\o.data=.fields vs
section
variable{X:Cx}{pins:List (Addr×Obj)}{σ:St}{H:Hp}{s:Shared}{W:XK}
theorem Inv.triedN(I:Inv X pins σ H s)(W:XK):Inv (X.triedN pins W) [] σ H s:=
 ⟨⟨I.ok.mod,I.ok.kind,I.ok.glob,I.ok.blt,I.ok.above,I.ok.inj,I.ok.has,I.ok.cab,I.ok.hd,I.ok.frames,I.ok.stk,I.ok.exf,I.ok.bs,I.ok.bsz,I.ok.noex,I.ok.exfs,I.ok.funs,I.ok.frf⟩,I.os,I.bare,I.base,I.loc,I.cell,I.free,I.freeC,fun p hp=>I.pin p (by simpa using hp),I.hok,I.len⟩
theorem Inv.untriedN{pins':List (Addr×Obj)}(I:Inv (X.triedN pins W) pins' σ H s):Inv X pins σ H s:=
 ⟨⟨I.ok.mod,I.ok.kind,I.ok.glob,I.ok.blt,I.ok.above,I.ok.inj,I.ok.has,I.ok.cab,I.ok.hd,I.ok.frames,I.ok.stk,I.ok.exf,I.ok.bs,I.ok.bsz,I.ok.noex,I.ok.exfs,I.ok.funs,I.ok.frf⟩,I.os,I.bare,I.base,I.loc,I.cell,I.free,I.freeC,fun p hp=>I.pin p (Fc _ hp),I.hok,I.len⟩
theorem SP.untriedN{D:Ends}{f:Flow}{s':Shared}(h:SP (X.triedN pins W) [] D f s'):SP X pins D f s':=by
 cases f with
 |next=>obtain⟨σ',H',I,q⟩:=h;exact⟨σ',H',I.untriedN,q⟩
 |brk=>obtain⟨σ',H',I,q⟩:=h;exact⟨σ',H',I.untriedN,q⟩
 |cont=>obtain⟨σ',H',I,q⟩:=h;exact⟨σ',H',I.untriedN,q⟩
 |ret u=>obtain⟨v,σ',H',I,r,q⟩:=h;exact⟨v,σ',H',I.untriedN,r,q⟩
theorem xR{E':XK}(h:∀C o H,E' C o H->W C o H):Passes (CXn X.prog X.w) (X.triedN pins W) E':=by rintro pins' σ H2 s2 e s' I2 ⟨x,C,T,H',a0,od,rfl,os,bare,un,hok,n1,n2,u1,u2,t,dc,ee⟩;exact⟨x,C,T,σ,H2,s2,H',a0,od,rfl,I2.untriedN,n1,n2,(I2.call' (ch:=[]) os un hok bare (fun _ z=>nomatch z)).untriedN,t,u1,u2,dc,h _ _ _ ee⟩
theorem Inv.trackN{x C:Addr}{od:Option Addr}{o:Obj}{vs:Array Value}(I:Inv X pins σ H s)(n1:X.s₀.heap.get? x=none)(u1:H x=none)(p2:∀p∈X.pn++pins,p.1≠x)(p3:∀y c,X.env.cells.lookup y=some c->c≠x)(p4:x≠X.env.locals)
  (e:s.heap.get? x=some o) (hc:o.cls=.ref C) (hd:o.dict=od) (hv:o.data=.fields vs):Inv X pins σ (upd H x (XN x C od)) s:=by
 have nx:∀b u,H b=some u->b≠x:=fun b u e z=>by rw[z,u1]at e;cases e
 refine⟨I.ok,I.os,I.bare,⟨I.base.keep,I.base.slot,fun b o' e1 n hx=>?_,I.base.there,fun b xs e1=>?_,fun b o' u e1=>?_,fun b ps e1=>?_⟩,I.loc,I.cell,?_,fun y c e1=>?_,fun p hp=>?_,fun b u e1=>?_,I.len⟩
 ·rw[aN (fun z=>by rw[z,n1]at e1;cases e1)];exact I.base.free b o' e1 n hx
 ·have q:=I.base.tups b xs e1;rw[aN (nx b _ q)];exact q
 ·have q:=I.base.frzs b o' u e1;rw[aN (nx b _ q)];exact q
 ·obtain⟨more,q⟩:=I.base.tbls b ps e1;exact⟨more,by rw[aN (nx b _ q)];exact q⟩
 ·rw[aN (Gj p4)];exact I.free
 ·rw[aN (p3 y c e1)];exact I.freeC y c e1
 ·obtain⟨a1,a2,a3⟩:=I.pin p hp;exact⟨a1,by rw[aN (p2 p hp)];exact a2,a3⟩
 ·by_cases hb:b=x
  ·subst hb;rw[ag]at e1;cases e1;exact⟨⟨o,vs,e,hc,hd,hv⟩,⟨o,e⟩,fun h1 h2 ⟨o1,v1,f1,f2⟩ k=>⟨o1,v1,k o1 f1,f2⟩⟩
  ·rw[aN hb]at e1;refine(I.hok b u e1).stay (fun _ _ _ q=>q) (fun c q=>?_) fun c xs q=>?_
   ·rw[aN (nx c _ q)];exact q
   ·rw[aN (nx c _ q)];exact q
theorem yi{x T C:Addr}{a0:Value}{od:Option Addr}{H2 H':Hp}{s2 s':Shared}{h5:Heap}{c n:Str}{i:Nat}{cp hp:Pos}{b0:Stmt}{suite:List Stmt}{th:TS}{D:Ends}{rest:List ExceptHandler}(hst:X.stack=X.env::X.outer)(hex:X.ex=[])
  (hN:X.N.Nodup) (hi:X.N[i]?=some n) (hl:X.env.kindOf n=some .local)
  (I2:Inv X pins σ H2 s2) (n1:s2.heap.get? x=none) (n2:s2.heap.get? T=none) (I:Inv X pins σ H' s') (u1:H' x=none) (u2:H' T=none)
  (fl5:Heap.FlyingW (PySem.W.hideAll s'.heap (frs (X.env::X.outer)++[x,T])) (X.env::X.outer) x (.ref C) a0 h5) (us45:s'.heap.UpToSlots h5) (dc:pw h5 x od)
  (Z:Af X.K X.mg c C) (hs:∀y,PSs (X.marked y) (b0::suite) th) (q:th (D.gone i) (σ.set i (some (.ref x))) (upd H' x (XN x C od))) (hg:Gl X c) (hdb:(c==("__debug__":Str))=false) {E:Value->Shared->Prop}:
  wpAny (model X.prog X.w) X.A (handleBy (.ref x) X.env (.ExceptHandler (some (.Name c cp)) (some n) (b0::suite) hp::rest)) (SP X pins D) E {s' with heap:=h5}:=by
 obtain⟨p1,p2,p3,p4⟩:=I2.apart hex n1;obtain⟨r1,r2,r3,r4⟩:=I2.apart hex n2;obtain⟨C',Zg,Zc,hm⟩:=Z.ex;have J:=I.landed (t':=s'.toks) p1 r1 u1 u2 p2 r2 p3 r3 p4 r4 (hst▸fl5.1) us45;obtain⟨oe,he,hcl⟩:=fl5.there;obtain⟨tl,N,nm,qn,bs,hd,sn,sub,ab,col,dd,k0,k1,k2,k3,k5,hC,_,hmr⟩:=nI J.kIn Z.ok;obtain⟨tl',N',nm',qn',bs',hd',sn',sub',ab',col',dd',j0,j1,j2,j3,j5,hC',T',_⟩:=nI J.kIn Zc;refine wpAny_handleBy_cons (codeAny_handlers_test (kZ (X:=X.marked x) (J.marked x) hg Zg ?_ hdb)) (by intro z;cases z);refine ph hC hC' he hcl (T'.hasType rfl) (hmr _ _ hm) ?_;refine codeAny_handlers_suite_as ?_;refine E6 ((gj _ _).any (lands_againW (Q:=fun _ s4=>∃h6,s4={s' with heap:=h6}/\Heap.FlyingW (PySem.W.hideAll s'.heap (frs (X.env::X.outer)++[x,T])) (X.env::X.outer) x (.ref C) a0 h6/\h5.UpToSlots h6) fl5 fun h6 fl6 us6=>⟨h6,rfl,fl6,us6⟩)) (fun _ s4 z=>?_) fun _ _ z=>z.1;obtain⟨⟨h6,rfl,fl6,us6⟩,dk⟩:=z;have J6:=I.landed (t':=s'.toks) p1 r1 u1 u2 p2 r2 p3 r3 p4 r4 (hst▸fl6.1) (us45.trans us6);obtain⟨oe6,vs6,_,_,_,he6,⟨hcl6,_⟩,hv6,_⟩:=fl6.2.2.2;obtain⟨o7,e7,d7⟩:=dc.kp dk;have e76:o7=oe6:=Fo (e7.symm.trans he6);have J7:=J6.trackN (od:=od) p1 u1 p2 p3 p4 he6 hcl6 (by rw[<-e76];exact d7) hv6;refine nO (v:=.ref x) J7 hN hi (.inl hl) rfl (fun s8 J8=>?_) (.inr hl);refine E6 (hs x pins _ _ _ (D.gone i) (J8.marked x) q) (fun f s9 hq=>?_) (fun _ _ z=>False.elim z);exact Bc hN hi hl I.ok.kind (hq.unmarked I.ok)
def CP(K:Frag)(mg:Str->Option Value)(N:Nat)(tb:XK->TS)(c:Str)(m:Nat)(t1:TS):TS:=fun D σ H=>tb (fun cls od H2=>∃C,cls=.ref C/\Af K mg c C/\
 ∀(x:Addr)(σ':St),σ'.length=N->H2 x=none->t1 (D.gone m) (σ'.set m (some (.ref x))) (upd H2 x (XN x C od))) D σ H
theorem AD{m L:Nat}{c nx:Str}{p1 q1 pos:Pos}{body:List Stmt}{b1:Stmt}{su1:List Stmt}{tb:XK->TS}{t1:TS}(hN:X.N.Nodup)(hn:X.N[m]?=some nx)(hl:X.env.kindOf nx=some .local)
  (hb:∀pins W,PSs (X.triedN pins W) body (tb W)) (h1:∀z,PSs (X.marked z) (b1::su1) t1)
  (hst:X.stack=X.env::X.outer:=by rfl) (hf:X.env.frame=some L:=by rfl) (hex:X.ex=[]:=by rfl) (hg1:Gl X c:=by rfl) (hd1:(c==("__debug__":Str))=false:=by decide):
  PS X (.Try body [.ExceptHandler (some (.Name c p1)) (some nx) (b1::su1) q1] [] [] pos) (CP X.K X.mg X.N.length tb c m t1):=by
 intro pins s σ H DD I h;refine wpAny_Try_except (E6 (hb pins _ [] s σ H DD (I.triedN _) h) (fun f s1 q=>?_) fun e s1 q=>?_)
 ·have q':=SP.untriedN q;cases f with
  |next=>exact wpAny_execs_nil q'
  |brk=>exact q'
  |cont=>exact q'
  |ret u=>exact q'
 ·obtain⟨x,C,T,σ',H2,s2,H',a0,od,rfl,I2,n1,n2,J,t,u1,u2,dc,C2,ec,Z,q⟩:=q;cases ec;have fl:=Cu J t;rw[hst]at fl;refine E6 ((qd _ _).any (wpAny_looks_onW (Q:=fun _ s4=>∃h4,s4={s1 with heap:=h4}/\Heap.HeldW (PySem.W.hideAll s1.heap (frs (X.env::X.outer)++[x,T])) (X.env::X.outer) x (.ref C) a0 L h4/\s1.heap.UpToSlots h4) (outer:=X.outer) (by rw[J.ok.frames,hst]) hf fl fun h4 held us4=>⟨h4,rfl,held,us4⟩)) (fun _ s4 z=>?_) fun _ _ z=>z.1;obtain⟨⟨h4,rfl,held,us4⟩,dk4⟩:=z;refine E6 ((gj _ _).any (wpAny_landsW (Q:=fun _ s5=>∃h5,s5={s1 with heap:=h5}/\Heap.FlyingW (PySem.W.hideAll s1.heap (frs (X.env::X.outer)++[x,T])) (X.env::X.outer) x (.ref C) a0 h5/\h4.UpToSlots h5) held fun h5 fl5 us5=>⟨h5,rfl,fl5,us5⟩)) (fun _ s5 z=>?_) fun _ _ z=>z.1;obtain⟨⟨h5,rfl,fl5,us5⟩,dk5⟩:=z;exact yi hst hex hN hn hl I2 n1 n2 J u1 u2 fl5 (us4.trans us5) ((dc.kp dk4).kp dk5) Z h1 (q x σ' J.len u1) hg1 hd1
def CZ(K:Frag)(ta:TE)(f:Str):TE:=fun σ H Q=>ta σ H fun x H1=>∃a C dx fs v,x=.ref a/\H1 a=some (XN a C (some dx))/\H1 dx=some (XD dx fs)/\RdX K C f/\fs.lookup f=some v/\Q v H1
theorem AJ{K:Frag}{e:Expr}{f:Str}{pos:Pos}{ta:TE}(hK:X.K=K)(he:PE X e ta)(hb:attributeBase e f X.env (eval e X.env)=eval e X.env:=by rfl):PE X (.Attribute e f pos) (CZ K ta f):=by
 subst hK;intro pins s σ H Q I h;refine Bv hb (thn (he pins s σ H _ I h) fun u s1 hPz=>?_);obtain⟨x,H1,I1,rx,a,C,dx,fs,v,ex,hx,hd,R,l,q⟩:=hPz;subst ex;obtain rfl:u=Value.ref a:=rx;obtain⟨o,vs,e1,e2,e3,e4⟩:=(I1.hok a _ hx).1;obtain⟨mA,n0,r0,w0⟩:=(I1.hok dx _ hd).1;obtain⟨u',hu,ru⟩:=lT.some_of (v:=v) (o:=mA f) (by rw[<-l];exact r0 f);have nc:PySem.W.notCls o=true:=by obtain⟨c,d,dt,sl⟩:=o;cases e4;rfl
 obtain⟨hp,g,d,tk,os⟩:=s1;exact PySem.W.El I1.kIn e1 e2 nc e3 n0 hu R.pl R.ga R.gt R.na (PySem.W.handedOut_of (yh ru)) ⟨v,H1,I1.tok _,ru,q⟩
end
section
variable{K:Frag}{h:Heap}{mg:Str->Option Value}{c m:Str}{C f:Addr}
theorem Ak(fi:findIn K (.ref C) "__init__"=some (some (.ref f)))(ok:PySem.W.jm K C PySem.W.vErr4 "ValueError.__new__" f=true):sj K C:=⟨f,ok⟩
theorem A9(X:K.In h)(G:h.Ns mainGlobals mg)(a:nsIn K mainGlobals c=some (some (.ref C)))(fi:findIn K (.ref C) "__init__"=some (some (.ref f)))(ok:PySem.W.jm K C PySem.W.vErr4 "ValueError.__new__" f=true)
 (mr:mroIn K C (.ref C)=some true):Af K mg c C:=⟨⟨f,ok⟩,C,FW X G a,⟨f,ok⟩,mr⟩
end
end L2
namespace L2
theorem mN{α:Type}{P:α->Prop}:∀p∈([]:List α),P p:=fun _ h=>nomatch h
theorem mC{α:Type}{P:α->Prop}{a:α}{l:List α}(h:P a)(t:∀p∈l,P p):∀p∈a::l,P p:=fun p hp=>by
 cases hp with
 |head=>exact h
 |tail _ hp=>exact t p hp
end L2
namespace L2
open PySem PySem.W
theorem oX{g:(St->Hp->Prop)->Prop}{t:TS}{D:Ends}(k:let D':=D;g fun σ2 H2=>t D' σ2 H2):g (fun σ2 H2=>t D σ2 H2):=k
theorem dW{t:TS}{D:Ends}{σ:St}{H:Hp}(k:let D':=D;t D' σ H):t D σ H:=k
theorem iL{g:(St->Hp->Prop)->Prop}{tt:TT}{te:TE}{q:VK}{r:Hp->Prop}(k:let q':=q;let r':=r;g fun σ2 H4=>tt σ2 H4 fun b H5=>if b=true then te σ2 H5 q' else r' H5):g (fun σ2 H4=>tt σ2 H4 fun b H5=>if b=true then te σ2 H5 q else r H5):=k
noncomputable def C6:Stmt->List Stmt
 | .For _ _ b _ _=>b
 | .While _ b _ _=>b
 |_=>[]
theorem bU{X:Cx}{body:List Stmt}{Z:TS->Prop}(k j:Nat){u:TS}(r:PSs X ((C6 (body.getD k (.Pass ⟨0,0,0,0⟩))).drop j) u)(h:let R:=u;PSs X ((C6 (body.getD k (.Pass ⟨0,0,0,0⟩))).drop j) R->∃t,PSs X body t/\Z t):∃t,PSs X body t/\Z t:=h r
end L2
namespace LO
noncomputable abbrev Pt:=Int×Int
end LO
namespace L2
open PySem PySem.Spec PyProof.Rows
open LO
theorem Dx{K:Frag}{H:Hp}{b:PySem.Addr}{x y:Int}(h:SqT K H b [.int x,.int y]):IsD K H (BW [.inl x,.inl y]) (.ref b):=.tup h (.cons (.int _) (.cons (.int _) .nil))
theorem yT(p q:Pt):PyData.eqv (BW [.inl p.1,.inl p.2]) (BW [.inl q.1,.inl q.2])=decide (p=q):=by
 show PyData.eqvAll (([.inl p.1,.inl p.2]:List Key).map oW) (([.inl q.1,.inl q.2]:List Key).map oW)=_;rw[wB,Fu,Ez,Ez];constructor
 ·intro h;obtain⟨h1,h2⟩:=List.cons.inj h;exact Prod.ext (Sum.inl.inj h1) (Sum.inl.inj (List.cons.inj h2).1)
 ·intro h;rw[h]
end L2
namespace L2
open PySem PySem.Spec PyProof.Rows
section
variable{prog:Program}{w:World}{A:Around}{E:Value->Shared->Prop}{s:Shared}
theorem DG{T newId initId:String}{Bn Bi:Builtin}{args:List Value}{kw:List (Str×Value)}{S:PySem.Spec}{Q Q₁:Value->Shared->Prop}(ft:TypeCalled T newId initId)
  (hct:checkTypeCall T ⟨args,kw⟩=pure ()) (hcn:checkBuiltinCall newId ⟨.type T::args,kw⟩=pure ())
  (entryN:entryFor table newId=some Bn) (entryI:entryFor table initId=some Bi) (g:Meets (Bn ⟨.type T::args,kw⟩) S)
  (h:S A.in1 (wants Q₁ E) s)
  (hnext:∀obj s₁,Q₁ obj s₁->s₁.TypeIs obj T/\argsOk initId ⟨obj::args,kw⟩/\∃Si,Meets (Bi ⟨obj::args,kw⟩) Si/\Si A.in1 (wants (fun r s₂=>r=.none/\Q obj s₂) E) s₁):
  wpAny (model prog w) A (call (.type T) args kw) Q E s:=by
 obtain⟨c,tl,hmro⟩:=ft.mro;have hmade:=ft.made;have hsub:=ft.sub;refine wpAny_call (codeAny_of_tree ?_);show wpAny _ _ (callAny (.type T) _) _ _ _;refine EF ⟨Code.quiet_builtin _ (by decide+kernel),codeAny_builtin F.entry_type_call ?_⟩;rw[Around.under_plain (weight_type_call_type T args kw) (units_type_call_type T args kw)];have h1:=ft.notType;have h2:=ft.canCreate
 repeat (any_goals (first|assumption|wp_step))
 refine codeAny_mono (FO ft.plain entryN (wpAny_of_eq hcn (g prog w A.in1 _ s h))) fun r s₁ hr=>?_;cases r with
 |error e=>exact hr
 |ok fl=>
  cases fl with
  |ret obj=>
   obtain⟨hT,hok,Si,gi,hsi⟩:=hnext _ _ hr;have hli:=ft.init.lookup;have hbi:=ft.init.bind obj
   repeat (any_goals (first|assumption|wp_step))
   refine codeAny_mono (FO ft.init.plain entryI (ft.init.check _ _ _ _ _ _ _ _ hT hok (gi prog w A.in1 _ s₁ hsi))) fun r₂ s₂ hr₂=>?_;cases r₂ with
   |error e=>exact hr₂
   |ok fl₂=>
    cases fl₂ with
    |ret r=>
     obtain⟨rfl,hq⟩:=hr₂
     repeat (any_goals (first|assumption|wp_step))
    |_=>exact hr₂.elim
  |_=>exact hr.elim
end
theorem initK{T newId:String}{self:Value}{rest:List Value}{kw:List (Str×Value)}(hl:typeLookup (.type T) "__init__"=pure (some (.builtin "object.__init__")))
  (hm:Bind.madeBy (.type T)=pure (some newId)) (hne:(some newId != some "object.__new__")=true) (hr:rest≠[]):
  Meets (Builtin.«object.__init__» ⟨self::rest,kw⟩) (fun _ R s=>s.TypeIs self T/\R (.ok (.ret .none)) s):=by
 refine Meets.of_wp fun prog w A R s hs=>?_;obtain⟨hT,hq⟩:=hs;cases rest with
 |nil=>exact absurd rfl hr
 |cons a rest=>
  repeat (any_goals (first|assumption|wp_step))
  exact⟨_,rfl,hq⟩
open AutoSeq1 (wpAny_loadPart')in
theorem x4(l:Addr)(t:Tok)(items:Array Value)(n:Nat)(dct:Option Addr)(sl:Array (Option Value)):Meets (Builtin.«enumerate.__new__» ⟨[.type "enumerate",.ref l],[("start",.int 1 t)]⟩) (fun _ R s=>s.heap.get? l=some {cls:=.type "tuple",dict:=dct,data:=.seq items n,slots:=sl}/\
  R (.ok (.ret (.ref (s.heap.push {cls:=.type "tuple_iterator",data:=.fields #[.ref l,.int 0 0]}).objs.size))) {s with heap:=(s.heap.push {cls:=.type "tuple_iterator",data:=.fields #[.ref l,.int 0 0]}).push {cls:=.type "enumerate",data:=.fields #[.none,.bool false,.ref s.heap.objs.size,rawInt 1,.none,.none]}}):=
 .of_wp fun prog w A R s h=>by
  obtain⟨hp,g,d,tk,os⟩:=s
  obtain⟨hl,h⟩:=h
  have sb:=sub_enumerate
  have hT:Heap.IsTuple (Shared.heap ⟨hp,g,d,tk,os⟩) l items:=⟨_,hl,rfl,n,rfl⟩
  wp_walk using wpAny_loadPart' hl
  refine wpAny_stack_any fun st=>EF ?_
  split
  ·rename_i c _ _ _ _ _
   cases (c==Value.type "enumerate")<;>(wp_walk using wpAny_loadPart' hl,wpAny_pyIter_tuple hT;exact⟨_,rfl,h⟩)
  ·wp_walk using wpAny_loadPart' hl,wpAny_pyIter_tuple hT
   exact⟨_,rfl,h⟩
theorem Cy{P:Program}{w:World}{A:Around}{it:Addr}{fp:List Addr}{n:Nat}{Pv:Nat->Value->Prop}{St:Nat->Heap->Prop}(D:Draws P w A it fp n Pv St):Draws P w A it fp (n+1) (fun i x=>Pv (i-1) x) (fun i h=>0<i/\St (i-1) h) where
 live:=fun i h st=>D.live _ _ st.2
 frame:=fun i h h' st k=>⟨st.1,D.frame _ _ _ st.2 k⟩
 item:=fun i s Q E hi st q=>D.item (i-1) s Q E (by omega) st.2 fun x h' tk a b c=>q x h' tk a ⟨Nat.succ_pos _,by rw[show i+1-1=i-1+1 by omega];exact b⟩ c
 done:=fun s Q E st q=>D.done s Q E (by have:=st.2;rwa[Nat.add_sub_cancel]at this) q
noncomputable def Ad(K:Frag)(a:Addr):It:=
 ⟨fun i H=>∃xs x,SqT K H a xs/\xs[i]?=some x,fun i H x H'=>∃T v,H T=none/\x=.ref T/\H'=upd H T (.tup [.int ((i+1:Nat):Int),v])/\∀xs,SqT K H a xs->xs[i]?=some v,fun i H=>∃xs,SqT K H a xs/\xs.length=i⟩
theorem vi{P:Program}{w:World}{K:Frag}{elts:List Expr}{x1:Nat}{pos:Pos}(a e it:Addr)(ne:e≠it):Turn P w K (.Tuple elts x1 pos) (Ad K a) [e,it] e (fun i h=>(∃old,IsEnum h e it ((i+1:Nat):Int) old)/\h.IsTupleIter it a i) where
 mem:=by simp
 obj:=fun i h st b hb=>by
  have z:b=e\/b=it:=by simpa using hb
  obtain⟨⟨old,st1⟩,o,st2,c,d⟩:=st;rcases z with rfl|rfl
  ·exact⟨_,st1,fun v z=>by cases z⟩
  ·exact⟨o,st2,fun v z=>by rw[d]at z;cases z⟩
 keep:=fun i h h' st k=>by obtain⟨⟨old,st1⟩,st2⟩:=st;exact⟨⟨old,k e (by simp) _ st1⟩,st2.at fun o g=>k it (by simp) o g⟩
 item:=by
  intro X hP hw hK hc i pins s σ H E I hf st hg;subst hP hw hK;obtain⟨xs,x,hq,hx⟩:=hg;obtain⟨its,rv,p,hz⟩:=I.tuple hq;obtain⟨u,hu,ru⟩:=rv.get hx;obtain⟨⟨old,st1⟩,st2⟩:=st;have fe:=hf e (by simp);have fi:=hf it (by simp);have hai:a≠it:=fun z=>by obtain⟨o,g1,c1,_⟩:=st2;obtain⟨o',g2,c2,_⟩:=p;rw[z,g1]at g2;cases g2;rw[c1]at c2;exact absurd c2 (by decide)
  have hae:a≠e:=fun z=>by obtain⟨o',g2,c2,_⟩:=p;rw[z,st1]at g2;cases g2;have c3:Value.type "enumerate"=Value.type "tuple":=c2;exact absurd c3 (by decide)
  have lt:i<its.toArray.size:=by have:=(ED.mp hu).1;simpa using this
  have D:Draws X.prog X.w X.A.in1 it [it,a] its.toArray.size (fun i x=>its.toArray[i]?=some x) (fun i h=>h.IsTupleIter it a i/\h.IsTuple a its.toArray):=zN (I.ok.hd hc) hai;refine wpAny_pyNext_enum_itemD (Cy D) st1 ⟨Nat.succ_pos i,st2,p⟩ (Nat.succ_lt_succ lt) ne (by simp[ne,Gj hae]) fun y h' tk hy o1 o2 o3 o4 k=>?_;have ey:y=u:=by have z:its.toArray[i]?=some u:=(by simpa using hu);have hy:its.toArray[i]?=some y:=hy;rw[z]at hy;exact(Fo hy).symm
  subst ey;refine⟨_,rfl,?_⟩;refine wpAny_letOwnedTupleGo_enum (s:={s with heap:=h',toks:=tk+1}) o1 fun h2 st1' sb=>?_;have nT:s.heap.objs.size≠e:=Nat.ne_of_gt (EM st1);have kk:∀b o,b≠e->b≠it->s.heap.get? b=some o->h2.get? b=some o:=fun b o q1 q2 q=>(sb.2 b q1).trans (k b o q1 q2 q);refine⟨.ref s.heap.objs.size,upd H s.heap.objs.size (.tup [.int ((i+1:Nat):Int),x]),(show Inv X pins σ (upd H s.heap.objs.size (.tup [.int ((i+1:Nat):Int),x])) {s with heap:=h2,toks:=tk+1}from An (s:=s) (h':=h2) (t':=tk+1) I kk fe fi (EG _) ?_),rfl,⟨_,x,I.hok.fresh (EG _),rfl,rfl,fun ys hy=>by rw[I.tuple_inj hy hq];exact hx⟩,⟨⟨_,by simpa using st1'⟩,?_⟩,fun b hb=>?_⟩
  ·exact⟨by show 2<=sizeLine;decide,[.int ((i+1:Nat):Int) tk,y],.cons ⟨tk,rfl⟩ (.cons ru .nil),⟨_,(sb.2 _ nT).trans o3,rfl,_,rfl⟩⟩
  ·exact o2.2.1.at fun o g=>(sb.2 it (Gj ne)).trans g
  ·have nb:b≠s.heap.objs.size:=by
    have z:b=e\/b=it:=(by simpa using hb);rcases z with rfl|rfl
    ·exact Fx (EM st1)
    ·obtain⟨o,g,_⟩:=st2;exact Fx (EM g)
   rw[aN nb];exact(hf b hb).1
 done:=by
  intro X hP hw hK hc i pins s σ H E I hf st hg;subst hP hw hK;obtain⟨xs,hq,hx⟩:=hg;obtain⟨its,rv,p,hz⟩:=I.tuple hq;obtain⟨⟨old,st1⟩,st2⟩:=st;obtain⟨f0,f1,f2,f3,f4,f5⟩:=hf it (by simp);have hai:a≠it:=fun z=>by obtain⟨o,g1,c1,_⟩:=st2;obtain⟨o',g2,c2,_⟩:=p;rw[z,g1]at g2;cases g2;rw[c1]at c2;exact absurd c2 (by decide)
  have D:Draws X.prog X.w X.A.in1 it [it,a] its.toArray.size (fun i x=>its.toArray[i]?=some x) (fun i h=>h.IsTupleIter it a i/\h.IsTuple a its.toArray):=zN (I.ok.hd hc) hai;have el:i=its.toArray.size:=by have:=rv.length;simp;omega
  exact wpAny_pyNext_enum_endD D st1 ⟨el▸st2,p⟩ fun h' eb=>⟨rfl,I.turned (t':=s.toks) (fun b o hb g=>eb b o hb g) f0 f1 f3 f4 f5⟩
 self:=fun A i s Q E st h=>by obtain⟨⟨old,st1⟩,_⟩:=st;exact wpAny_pyIter_enum st1 h
section
variable{X:Cx}{elts:List Expr}{x1:Nat}{tp:Pos}
theorem nJ(a:Value)(t:Tok):checkTypeCall "enumerate" ⟨[a],[("start",.int 1 t)]⟩=pure ():=by kernel_rfl
theorem pM(a:Value)(t:Tok):checkBuiltinCall "enumerate.__new__" ⟨[.type "enumerate",a],[("start",.int 1 t)]⟩=pure ():=by kernel_rfl
theorem v9(o a:Value)(t:Tok):argsOk "object.__init__" ⟨[o,a],[("start",.int 1 t)]⟩:=by unfold argsOk;kernel_rfl
end
section
variable{M:Model}{A:Around}{E:Value->Shared->Prop}{s:Shared}{env:Env}
theorem r8{pos:Pos}{T:String}{e:Expr}{kws:List Keyword}{Q:Value->Shared->Prop}
  (h:wpAny M A (spliced (backTo pos (starEach [e] env))) (fun vs s₁=>wpAny M A (evalAll ((backToKw pos (keywordEach kws env)).map (·.2))) (fun kvs s₂=>wpAny M A (call (.type T) vs (((backToKw pos (keywordEach kws env)).filterMap (·.1)).zip kvs)) Q E s₂) E s₁) E s)
  (he:backTo pos (starEach [e] env)=(false,eval e env)::backTo pos (starEach [] env))
  (hplain:(backTo pos (starEach [e] env)).any (·.1)=false)
  (hall:(backToKw pos (keywordEach kws env)).all (·.1.isSome)=true)
  (hkw:(backToKw pos (keywordEach kws env)).any (·.1.isNone)=false):
  wpAny M A (callWith pos (.type T) [] (backTo pos (starEach [e] env)) (backToKw pos (keywordEach kws env))) Q E s:=by
 unfold callWith;have h2:wpAny M A (evalArgs (.type T) true (backTo pos (starEach [e] env)) (backToKw pos (keywordEach kws env))) (fun a s₁=>wpAny M A (call (.type T) ([]++a.pos) a.kw) Q E s₁) E s:=by rw[he]at h ⊢;exact evalArgs_kwB hall h
 refine Eu (Gh (E6 h2 (fun a s₁ h₁=>Eu (wpAny_standAt ?_)) fun _ _ x=>x));simp only[hplain,hkw,Bool.or_false];refine Eu (EF ?_);exact Eu (E6 h₁ (fun r s₂ hr=>Eu (Gh (wpAny_point (EF hr)))) fun _ _ x=>x)
end
section
variable{X:Cx}{elts:List Expr}{x1:Nat}{tp:Pos}
theorem yZ{l:Expr}{ta:TA}{p kp cp pos:Pos}{cj:Nat}(hg:Gl X "enumerate")(hm:X.mg "enumerate"=none)(ha:PA X [l] ta)(hs:starEach [l] X.env=[(false,eval l X.env)]:=by rfl):
  PI X (.Tuple elts x1 tp) (.Call (.Name "enumerate" p) [l] [⟨some "start",.Constant (.int 1) cj cp,kp⟩] pos) (fun σ H R=>ta σ H fun vs H1=>∃a,vs=[.ref a]/\(∃xs,SqT X.K H1 a xs)/\R (Ad X.K a) H1):=by
 intro pins s σ H R I h;refine F9 (j8 I hg hm boot_enumerate ?_);refine r8 (thn (ha pos pins s σ H _ I h) fun us s1 hPz=>?_) (by rw[hs];rfl) (by rw[hs];rfl) rfl rfl;obtain⟨vs,H1,I1,r1,q1⟩:=hPz;refine kws_cons (wpAny_Constant_int (kws_nil ?_));obtain⟨a,e,⟨xs,hq⟩,q⟩:=q1;subst e;cases r1 with
 |cons r rr=>
  cases rr;cases r;obtain⟨its,rv,pt,hz⟩:=I1.tuple hq;obtain⟨⟨c,dct,dt,sl⟩,hl,hc,n,hd⟩:=id pt;replace hc:c=.type "tuple":=hc;replace hd:dt=.seq its.toArray n:=hd;subst hc hd;show wpAny _ _ (call (.type "enumerate") [.ref a] [("start",.int 1 s1.toks)]) _ _ {s1 with toks:=s1.toks+1};refine DG F.called_enumerate (nJ _ _) (pM _ _) F.entry_enumerate_new F.entry_object_init (x4 a s1.toks its.toArray n dct sl) (Q₁:=fun obj s2=>s2.TypeIs obj "enumerate"/\_) ⟨hl,?_⟩ (fun obj s2 hq=>⟨hq.1,v9 _ _ _,_,initK F.called_enumerate.init.lookup F.called_enumerate.made (by decide) (by simp),hq.1,rfl,hq.2⟩);have hz1:(s1.heap.push {cls:=.type "tuple_iterator",data:=.fields #[.ref a,.int 0 0]}).objs.size=s1.heap.objs.size+1:=Heap.size_push ..;have he:IsEnum ((s1.heap.push {cls:=.type "tuple_iterator",data:=.fields #[.ref a,.int 0 0]}).push {cls:=.type "enumerate",data:=.fields #[.none,.bool false,.ref s1.heap.objs.size,rawInt 1,.none,.none]}) (s1.heap.objs.size+1) s1.heap.objs.size 1 .none:=by have:=Fh (s1.heap.push {cls:=.type "tuple_iterator",data:=.fields #[.ref a,.int 0 0]}) (o:={cls:=.type "enumerate",data:=.fields #[.none,.bool false,.ref s1.heap.objs.size,rawInt 1,.none,.none]}) rfl;rw[hz1]at this;exact this
  show _/\_;rw[hz1];refine⟨⟨_,he,rfl⟩,?_⟩;refine wpAny_pyIter_enum he ?_;refine⟨s1.heap.objs.size+1,[s1.heap.objs.size+1,s1.heap.objs.size],_,_,H1,rfl,I1.kept (t':=s1.toks+1) (fun b o g=>Ex _ (Ex _ g)),vi a _ _ (Nat.succ_ne_self _),⟨⟨_,he⟩,⟨_,Ex _ (Fh _ rfl),rfl,rfl⟩⟩,fun b hb=>?_,q⟩;have z:b=s1.heap.objs.size+1\/b=s1.heap.objs.size:=by simpa using hb
  rcases z with rfl|rfl
  ·exact I1.fpOk (Nat.le_succ _) (I1.hok.fresh (Nat.le_succ _))
  ·exact I1.fpOk (EG _) (I1.hok.fresh (EG _))
end
theorem yn{K:Frag}{a:Addr}{xs:List V}{g:TG}{tb:TS}{D:Ends}{σ:St}{H:Hp}(Pv:Nat->St->Hp->Prop)(h0:Pv 0 σ H)(hl:∀i σ H,i<=xs.length->Pv i σ H->SqT K H a xs)
  (hs:∀i y σ H T,xs[i]?=some y->Pv i σ H->H T=none->g (.ref T) σ (upd H T (.tup [.int ((i+1:Nat):Int),y])) fun σ2 H2=>tb {D with nx:=Pv (i+1),ct:=Pv (i+1),bk:=D.nx} σ2 H2) (hd:∀σ H,Pv xs.length σ H->D.nx σ H):
  ∃W:Nat->Nat->St->Hp->Prop,(∃m,W 0 m σ H)/\∀i m σ H,W i m σ H->
   ((Ad K a).stop i H/\D.nx σ H)\/((Ad K a).go i H/\∃N:St->Hp->Prop,(∀σ' H',N σ' H'->∃m',m'<m/\W (i+1) m' σ' H')/\∀x H',(Ad K a).yld i H x H'->g x σ H' fun σ2 H2=>tb {D with nx:=N,ct:=N,bk:=D.nx} σ2 H2):=by
 refine⟨fun i m σ H=>m=xs.length-i/\i<=xs.length/\Pv i σ H,⟨xs.length,by simp,EH _,h0⟩,?_⟩;rintro i m σ H ⟨rfl,hi,p⟩;have q:=hl i σ H hi p;by_cases hlt:i<xs.length
 ·refine .inr ⟨⟨xs,xs[i],q,by simp[hlt]⟩,Pv (i+1),fun σ' H' p'=>⟨xs.length-(i+1),by omega,rfl,hlt,p'⟩,fun x H' y=>?_⟩;obtain⟨T,v,hT,rfl,rfl,y⟩:=y;exact hs i v σ H T (y xs q) p hT
 ·have e:i=xs.length:=by omega
  exact .inl ⟨⟨xs,q,e.symm⟩,hd σ H (e▸p)⟩
def CY(t:TE):TE:=fun σ H Q=>t σ H fun x H1=>∃i,x=.int i/\(0<=i/\i<1000)/\∀y:Str,Q (.str y) H1
section
variable{X:Cx}{e:Expr}{t:TE}
theorem AI{a b:Str}{j1 j2:Nat}{p1 p2 p3 pos:Pos}(he:PE X e t)(ha:a.length<=200:=by decide)(hb:b.length<=200:=by decide):PE X (.JoinedStr [.Constant (.str a) j1 p1,.FormattedValue e (-1) none p2,.Constant (.str b) j2 p3] pos) (CY t):=by
 intro pins s σ H Q I h;have z:sizeLine=16777216:=sizeLine_eq;refine JoinedStr_many (joinParts_cons (Calls.Constant_str ⟨?_,joinParts_cons (FormattedValue_plain (thn (he pins _ σ H _ (I.tok _) h) fun u s1 ⟨x,H1,I1,rx,i,ex,hi,q⟩=>?_))⟩))
 ·rw[strLen_append];show 0+_<=_;omega
 ·subst ex;obtain⟨t,rfl⟩:=rx;have hd:i.natAbs.log2<1920:=by
   have:i.natAbs<1000:=(by omega);have:i.natAbs.log2<=i.natAbs:=Nat.log2_le_self _;omega
  have hl:(Str.ofString (toString i)).length<=5:=by have e:=int_text_length_le10 (k:=4) (a:=i) (by decide) (by omega);rw[PySem.ofString_length];omega
  refine formatField_int_small hd ⟨?_,joinParts_cons (Calls.Constant_str ⟨?_,joinParts_nil ⟨.str _,H1,I1.tok _,⟨_,rfl⟩,q _⟩ ?_⟩)⟩
  all_goals (simp only[strLen_append];show _<=sizeLine;have z0:Str.empty.length=0:=rfl;omega)
end
noncomputable def atS(kvs:List (Str×V))(x:Str):Option V:=(kvs.find? fun z=>decide (z.1=x)).map (·.2)
structure GDk(P:Program)(w:World)(K:Frag)(p:Addr)(kvs:List (Str×V)):Prop where
 sm:(p==sysModules)=false
 ob:∃o vs,K.lookup p=some o/\o.IsDictOf (fK P w) vs/\KV (kvs.map fun z=>((.inr z.1:Key),z.2)) vs
theorem sg(x:Str):∀kvs:List (Str×V),uY (kvs.map fun z=>((.inr z.1:Key),z.2)) (.inr x)=atS kvs x
 | []=>rfl
 |z::kvs=>by
  have ih:=sg x kvs;rw[Fe];by_cases e:z.1=x
  ·rw[sO (p:=((.inr z.1:Key),z.2)) (by rw[e])];unfold atS;rw[List.find?_cons_of_pos (by rw[Ez];exact e)];rfl
  ·rw[sR (p:=((.inr z.1:Key),z.2)) (fun y=>e (Sum.inr.inj y)),ih];unfold atS;rw[List.find?_cons_of_neg (by rw[Ez];exact e)]
def CW(P:Program)(w:World)(K:Frag)(td ty:TE):TE:=fun σ H Q=>td σ H fun x H1=>ty σ H1 fun y H2=>∃a kvs k v,x=.ref a/\GDk P w K a kvs/\y=.str k/\atS kvs k=some v/\Q v H2
def DZ(P:Program)(w:World)(K:Frag)(ty td:TE):TE:=fun σ H Q=>ty σ H fun y H1=>td σ H1 fun x H2=>∃a kvs k,x=.ref a/\GDk P w K a kvs/\y=.str k/\Q (.bl (atS kvs k).isSome) H2
section
variable{X:Cx}{o i:Expr}{td ty:TE}{pos:Pos}
theorem GDk.at{p:Addr}{kvs:List (Str×V)}{pins:List (Addr×Obj)}{s:Shared}{σ:St}{H:Hp}(g:GDk X.prog X.w X.K p kvs)(I:Inv X pins σ H s):∃vs,KV (kvs.map fun z=>((.inr z.1:Key),z.2)) vs/\s.heap.DictOf (fK X.prog X.w) p vs:=by obtain⟨ob,vs,h1,h2,h3⟩:=g.ob;exact⟨vs,h3,Heap.dictOf_iff.mpr ⟨ob,I.kIn _ _ h1,h2⟩⟩
theorem wJ(ho:PE X o td)(hi:PE X i ty)(hs:DN i):PE X (.Subscript o i pos) (CW X.prog X.w X.K td ty):=by intro pins s σ H Q I h;refine Aq PySem.F.slot_dict_getitem.lookup hs (thn (ho pins s σ H _ I h) fun u s1 hPz=>L2.ep3 hPz fun x H1 I1 rx q1=>thn (hi pins s1 σ H1 _ I1 q1) fun iv s2 hPz=>?_);obtain⟨y,H2,I2,ry,a,kvs,k,v,ex,g,ey,l,q2⟩:=hPz;subst ex;subst ey;obtain rfl:u=Value.ref a:=rx;obtain⟨vs,rel,dd⟩:=g.at I2;rw[<-sg]at l;obtain⟨w',hw,rw'⟩:=lT.some_of (v:=v) (o:=valueAt vs (.inr k)) (by rw[<-l];exact rel.val (.inr k));exact⟨dd.typeIs,wpAny_getItem_of (wY (k:=.inr k) ry) dd.mapOf hw ⟨v,H2,I2.tok _,rw',q2⟩⟩
theorem B6(hi:PE X i ty)(ho:PE X o td):PC X .In i o (DZ X.prog X.w X.K ty td):=by intro pins s σ H Q I h;refine thn (hi pins s σ H _ I h) fun iv s1 hPz=>L2.ep3 hPz fun y H1 I1 ry q1=>thn (ho pins s1 σ H1 _ I1 q1) fun u s2 hPz=>?_;obtain⟨x,H2,I2,rx,a,kvs,k,ex,g,ey,q2⟩:=hPz;subst ex;subst ey;obtain rfl:u=Value.ref a:=rx;obtain⟨vs,rel,dd⟩:=g.at I2;refine wpAny_in_of (wY (k:=.inr k) ry) g.sm dd.mapOf ?_;have e:=(rel.val (.inr k)).isSome_eq;rw[sg]at e;rw[<-e];exact⟨.bl _,H2,I2.tok _,rfl,q2⟩
end
def tCV(P:Program)(w:World)(K:Frag)(mg:Str->Option Value)(base:Heap)(k:Nat)(ps:List Str)(i:Nat)(t:TA):TE:=fun σ H Q=>∃f n sp j,σ[i]?=some (some (.ref f))/\j<=k/\Df P w K mg base j n ps sp/\mg n=some (.ref f)/\t σ H fun vs H1=>sp vs H1 Q E0
section
variable{X:Cx}
theorem B3{i k:Nat}{x:Str}(ps:List Str){p pos:Pos}{e:Expr}{es:List Expr}{t:TA}(hv:PE X (.Name x p) (Ao i))(hr:eA k X.A)(ha:PA X (e::es) t)
  (he:starEach (e::es) X.env=(false,eval e X.env)::starEach es X.env:=by rfl) (hpl:(backTo pos (starEach es X.env)).any (·.1)=false:=by rfl):
  PE X (.Call (.Name x p) (e::es) [] pos) (tCV X.prog X.w X.K X.mg X.base k ps i t):=by
 intro pins s σ H Q I h;obtain⟨f,n,sp,j,hf,hj,D,hm,h⟩:=h;obtain⟨f',fd,F,b,hm',kp⟩:=D.ex;rw[hm]at hm';cases hm';refine F9 (thn (hv pins s σ H (fun v H'=>v=.ref f/\H'=H) I ⟨_,hf,rfl,rfl⟩) fun u s1 hPz=>?_);obtain⟨v,H1,I1,r,ev,eH⟩:=hPz;subst ev;subst eH;obtain rfl:u=Value.ref f:=r;refine PySem.W.callWith_K (h₀:=X.base) I1.ok.mod.kin kp (thn (ha pos pins s1 σ H1 _ I1 h) fun us s2 hPz=>L2.ep3 hPz fun vs H2 I2 r q=>⟨I2.kIn,?_⟩) he hpl;exact yL F (hr.mono hj) b .nil zb I2 r (by rw[E2];exact q)
end
noncomputable def qe(x:Str):Option (List Str):=
 if x="grant" then some ["good_number","good_date","good_signed","good_piece","good_shares"]
 else if x="cut" then some ["good_number","good_date","good_signed","good_cell","good_axis","good_line"]
 else if x="join" then some ["good_number","good_date","good_signed","good_cell","good_other_cell"]
 else if x="give" then some ["good_number","good_date","good_signed","good_cell","good_name","good_other_name","good_part","good_ground","good_trust"]
 else if x="lay" then some ["good_number","good_date","good_signed","good_cell","good_burden_kind","good_name","good_amount","good_until","good_over","good_note","good_ground","good_trust"]
 else if x="lift" then some ["good_number","good_date","good_signed","good_cell","good_number"]
 else if x="waive" then some ["good_number","good_date","good_signed","good_cell","good_number","good_other_number"]
 else none
structure wc(P:Program)(w:World)(K:Frag)(mg:Str->Option Value):Prop where
 ex:∃p kvs,mg "LOOKS"=some (.ref p)/\GDk P w K p kvs/\(∀x,qe x=none->atS kvs x=none)/\∀x ns,qe x=some ns->∃t fs,atS kvs x=some (.ref t)/\(∀H,SqT K H t (fs.map V.ref))/\Paired (fun f n=>mg n=some (.ref f)) fs ns
end L2
namespace L2
open PySem PySem.Spec PyProof.Rows LM
mutual
inductive TD(H:Hp):PyData->V->Prop
 |non:TD H .none .non
 |bl (b:Bool):TD H (.bool b) (.bl b)
 |int (i:Int):TD H (.int i) (.int i)
 |str (x:Str) (h:x.cps.all (·<128)=true/\x.length<=100) (l:PyData.canLay0 (.str x)=true):TD H (.str x) (.str x)
 |tup {a:Addr} {vs:List V} {ds:List PyData} (h:H a=some (.tup vs)) (z:TDs H ds vs):TD H (.tuple ds) (.ref a)
 |lst {a:Addr} {vs:List V} {ds:List PyData} (h:H a=some (.lst vs)) (z:TDs H ds vs):TD H (.list ds) (.ref a)
inductive TDs(H:Hp):List PyData->List V->Prop
 |nil:TDs H [] []
 |cons {d:PyData} {v:V} {ds:List PyData} {vs:List V} (a:TD H d v) (z:TDs H ds vs):TDs H (d::ds) (v::vs)
end
section
variable{K:Frag}{H H':Hp}
mutual
theorem TD.isD:∀{d:PyData}{v:V},TD H d v->IsD K H d v
 |_,_,.non=>.non
 |_,_,.bl b=>.bl b
 |_,_,.int i=>.int i
 |_,_,.str x _ _=>.str x
 |_,_,.tup h z=>.tup (SqT.of h) (TDs.isDs z)
 |_,_,.lst h z=>.lst (SqL.of h) (TDs.isDs z)
theorem TDs.isDs:∀{ds:List PyData}{vs:List V},TDs H ds vs->nj K H ds vs
 |_,_,.nil=>.nil
 |_,_,.cons a z=>.cons (TD.isD a) (TDs.isDs z)
end
mutual
theorem TD.same(s:aq H H'):∀{d:PyData}{v:V},TD H d v->TD H' d v
 |_,_,.non=>.non
 |_,_,.bl b=>.bl b
 |_,_,.int i=>.int i
 |_,_,.str x h l=>.str x h l
 |_,_,.tup h z=>.tup (s _ _ h) (TDs.same s z)
 |_,_,.lst h z=>.lst (s _ _ h) (TDs.same s z)
theorem TDs.same(s:aq H H'):∀{ds:List PyData}{vs:List V},TDs H ds vs->TDs H' ds vs
 |_,_,.nil=>.nil
 |_,_,.cons a z=>.cons (TD.same s a) (TDs.same s z)
end
mutual
theorem TD.lay:∀{d:PyData}{v:V},TD H d v->d.canLay0=true
 |_,_,.non=>rfl
 |_,_,.bl b=>rfl
 |_,_,.int i=>rfl
 |_,_,.str x _ l=>l
 |_,_,.tup h z=>TDs.lay z
 |_,_,.lst h z=>TDs.lay z
theorem TDs.lay:∀{ds:List PyData}{vs:List V},TDs H ds vs->PyData.canLayAll0 ds=true
 |_,_,.nil=>rfl
 |_,_,.cons a z=>by show(_&&_)=true;rw[TD.lay a,TDs.lay z];rfl
end
theorem TDs.len:∀{ds:List PyData}{vs:List V},TDs H ds vs->vs.length=ds.length
 |_,_,.nil=>rfl
 |_,_,.cons _ h=>by rw[ES,ES,TDs.len h]
theorem TDs.at:∀{ds:List PyData}{vs:List V}{i:Nat}{d:PyData},TDs H ds vs->ds[i]?=some d->∃v,vs[i]?=some v/\TD H d v
 |_,_,_,_,.nil,e=>by simp at e
 |_,_,0,_,.cons a _,e=>by simp at e;subst e;exact⟨_,rfl,a⟩
 |_,_,i+1,_,.cons _ h,e=>by rw[FJ]at e;obtain⟨d,hd,h'⟩:=TDs.at h e;exact⟨d,by rw[FJ];exact hd,h'⟩
theorem TDs.of:∀{ds:List PyData}{vs:List V}{i:Nat}{v:V},TDs H ds vs->vs[i]?=some v->∃d,ds[i]?=some d/\TD H d v
 |_,_,_,_,.nil,e=>by simp at e
 |_,_,0,_,.cons a _,e=>by simp at e;subst e;exact⟨_,rfl,a⟩
 |_,_,i+1,_,.cons _ h,e=>by rw[FJ]at e;obtain⟨d,hd,h'⟩:=TDs.of h e;exact⟨d,by rw[FJ];exact hd,h'⟩
theorem TDs.app:∀{ds es:List PyData}{vs us:List V},TDs H ds vs->TDs H es us->TDs H (ds++es) (vs++us)
 |_,_,_,_,.nil,z=>z
 |_,_,_,_,.cons a h,z=>.cons a (TDs.app h z)
theorem TDs.take:∀{ds:List PyData}{vs:List V}(n:Nat),TDs H ds vs->TDs H (ds.take n) (vs.take n)
 |_,_,0,_=>.nil
 |_,_,n+1,.nil=>.nil
 |_,_,n+1,.cons a h=>.cons a (TDs.take n h)
theorem TDs.drop:∀{ds:List PyData}{vs:List V}(n:Nat),TDs H ds vs->TDs H (ds.drop n) (vs.drop n)
 |_,_,0,z=>z
 |_,_,n+1,.nil=>.nil
 |_,_,n+1,.cons _ h=>TDs.drop n h
noncomputable def tyD:PyData->String
 | .none=>"NoneType" | .bool _=>"bool" | .int _=>"int" | .str _=>"str" | .list _=>"list" | .tuple _=>"tuple" | .dict _=>"dict"
theorem TD.ty{d:PyData}{v:V}(h:TD H d v):dJ K H v (.type (tyD d)):=by
 cases h with
 |non=>exact .non
 |bl b=>exact .bl b
 |int i=>exact .int i
 |str x _ _=>exact .str x
 |tup h _=>exact .tup h
 |lst h _=>exact .lst h
end
noncomputable def isT:PyData->Bool| .tuple _=>true|_=>false
noncomputable def isX:PyData->Bool| .str _=>true|_=>false
theorem A2(K:Frag)(d:PyData):kitOne K (.type (tyD d)) (.type "tuple")=some (isT d):=by cases d<;>kernel_rfl
theorem Dv(K:Frag)(d:PyData):kitOne K (.type (tyD d)) (.type "str")=some (isX d):=by cases d<;>kernel_rfl
noncomputable def wi(a b:Int):PyData->Bool
 | .int i=>decide (a<=i)&&decide (i<=b)
 |_=>false
noncomputable def inS(xs:List Str):PyData->Bool
 | .str x=>decide (x∈xs)
 |_=>false
noncomputable def qy:PyData->Str
 | .str x=>x
 |_=>⟨#[]⟩
noncomputable def rise:List Str->Bool
 |x::y::l=>decide (x.cps.toList<y.cps.toList)&&rise (y::l)
 |_=>true
noncomputable def eD:PyData->Bool
 | .tuple [.int t,.int b]=>decide (1<=b)&&decide (b<=1000000000)&&(decide (1<=t)&&decide (t<=b)&&decide (Int.gcd t b=1))
 |_=>false
noncomputable def fv:PyData->Bool
 | .tuple [n,p]=>nmD n&&eD p
 |_=>false
noncomputable def jR:PyData->Bool
 | .tuple ds=>decide (ds.length<=12)&&(ds.all nmD&&rise (ds.map qy))
 |_=>false
noncomputable def hnm:PyData->Str
 | .tuple (n::_)=>qy n
 |_=>⟨#[]⟩
noncomputable def hpt:PyData->Int×Int
 | .tuple [_,.tuple [.int t,.int b]]=>(t,b)
 |_=>(0,1)
noncomputable def jB:PyData->Bool
 | .tuple ds=>decide (1<=ds.length)&&decide (ds.length<=12)&&(ds.all fv&&(rise (ds.map hnm)&&decide (sumF (ds.map hpt)=(1,1))))
 |_=>false
open Classical in
noncomputable def jh(w h:Nat):PyData->Bool
 | .int i=>decide (1<=i)&&decide (i<=((2^(w*h)-1:Nat):Int))&&decide (∃ps,gv w h i.toNat ps/\ps.length=1)
 |_=>false
inductive Lk|num|onum|date|sgn|pc|shr|cell|ocell|axis|line|name|oname|part|grd|trust|bkind|amt|til|over|note
deriving DecidableEq
noncomputable def Lk.nm:Lk->Str
 |num=>"good_number" |onum=>"good_other_number" |date=>"good_date" |sgn=>"good_signed" |pc=>"good_piece" |shr=>"good_shares" |cell=>"good_cell" |ocell=>"good_other_cell" |axis=>"good_axis" |line=>"good_line"
 |name=>"good_name" |oname=>"good_other_name" |part=>"good_part" |grd=>"good_ground" |trust=>"good_trust" |bkind=>"good_burden_kind" |amt=>"good_amount" |til=>"good_until" |over=>"good_over" |note=>"good_note"
noncomputable def thg(ds:List PyData)(p:Nat):PyData:=(ds[p]?).getD .none
noncomputable def isZ:PyData->Bool| .int i=>decide (i=0)| .bool b=> !b|_=>false
noncomputable def trD:PyData->Bool| .none=>true|d=>wi 0 1000000000 d
noncomputable def o8(c k:PyData):Bool:=match c,k with
 | .int c,.int k=>decide (0<=k)&&c.toNat.testBit k.toNat
 |_,_=>false
noncomputable def lkB(w h:Nat)(ds:List PyData)(p:Nat):Lk->Bool
 | .num=>wi 1 1000000000 (thg ds p)
 | .onum=>wi 1 1000000000 (thg ds p)&& !PyData.eqv (thg ds p) (thg ds (p-1))
 | .date=>wi 0 1000000000 (thg ds p)
 | .sgn=>jR (thg ds p)
 | .pc=>jh w h (thg ds p)
 | .shr=>jB (thg ds p)
 | .cell=>wi 0 ((w:Int)*h-1) (thg ds p)
 | .ocell=>wi 0 ((w:Int)*h-1) (thg ds p)&& !PyData.eqv (thg ds p) (thg ds (p-1))
 | .axis=>inS ["x","y"] (thg ds p)
 | .line=>wi 0 8 (thg ds p)
 | .name=>nmD (thg ds p)
 | .oname=>nmD (thg ds p)&& !PyData.eqv (thg ds p) (thg ds (p-1))
 | .part=>eD (thg ds p)
 | .grd=>wi 0 ((2^(w*h)-1:Nat):Int) (thg ds p)&&(isZ (thg ds p)||o8 (thg ds p) (thg ds 4))
 | .trust=>trD (thg ds p)
 | .bkind=>inS ["debt","way","buy","note"] (thg ds p)
 | .amt=>wi 0 1000000000000 (thg ds p)
 | .til=>wi 0 1000000000 (thg ds p)&&(isZ (thg ds p)||PyData.eqv (thg ds 5) (.str "note"))
 | .over=>if PyData.eqv (thg ds 5) (.str "way")=true then jh w h (thg ds p)else wi 0 0 (thg ds p)
 | .note=>wi 0 1000000000 (thg ds p)&&(isZ (thg ds p)|| !PyData.eqv (thg ds 5) (.str "note"))
noncomputable def bE(x:Str):Option (List Lk):=
 if x="grant" then some [.num,.date,.sgn,.pc,.shr]
 else if x="cut" then some [.num,.date,.sgn,.cell,.axis,.line]
 else if x="join" then some [.num,.date,.sgn,.cell,.ocell]
 else if x="give" then some [.num,.date,.sgn,.cell,.name,.oname,.part,.grd,.trust]
 else if x="lay" then some [.num,.date,.sgn,.cell,.bkind,.name,.amt,.til,.over,.note,.grd,.trust]
 else if x="lift" then some [.num,.date,.sgn,.cell,.num]
 else if x="waive" then some [.num,.date,.sgn,.cell,.num,.onum]
 else none
theorem uq(x:Str):qe x=(bE x).map (List.map Lk.nm):=by
 unfold qe bE
 repeat' split
 all_goals rfl
structure RwE(H:Hp)(r:Addr)(ds:List PyData):Prop where
 td:TD H (.tuple ds) (.ref r)
 dep:(PyData.tuple ds).depth<=5
theorem RwE.same{H H':Hp}{r:Addr}{ds:List PyData}(s:aq H H')(h:RwE H r ds):RwE H' r ds:=⟨h.td.same s,h.dep⟩
theorem RwE.vs{H:Hp}{r:Addr}{ds:List PyData}(h:RwE H r ds):∃vs,H r=some (.tup vs)/\TDs H ds vs:=by
 cases h.td with
 |tup h z=>exact⟨_,h,z⟩
theorem RwE.at{H:Hp}{r:Addr}{ds:List PyData}(h:RwE H r ds){p:Nat}(hp:p<ds.length):∃vs v,H r=some (.tup vs)/\vs[p]?=some v/\TD H (thg ds p) v/\(thg ds p).depth<=4:=by
 obtain⟨vs,h1,z⟩:=h.vs;obtain⟨v,e,t⟩:=z.at (ER hp);have et:thg ds p=ds[p]:=by unfold thg;rw[ER hp];rfl
 rw[et];have d1:=h.dep;have d2:PyData.depthAll ds+1<=5:=d1;have d3:=mF (ER hp);exact⟨vs,v,h1,e,t,by omega⟩
noncomputable def Dk(ds:List PyData):Lk->Prop
 | .grd=>∃k,ds[4]?=some (.int k)
 | .til=>5<ds.length
 | .over=>5<ds.length
 | .note=>5<ds.length
 |_=>True
def spG(K:Frag)(l:Lk):Sp:=fun vs H Q _=>∃(fl r:Addr)(w h p:Nat)(ds:List PyData),vs=[.ref fl,.ref r,.int (p:Nat)]/\SqT K H fl [.int (w:Nat),.int (h:Nat)]/\(0<w/\w<=8)/\(0<h/\h<=8)/\RwE H r ds/\(1<=p/\p<ds.length)/\Dk ds l/\∀H',aq H H'->Q (.bl (lkB w h ds p l)) H'
section
variable{X:Cx}{K:Frag}
noncomputable def Dd(K:Frag):R2:=fun x y H Q=>∃p xs i v,x=.ref p/\y=.int i/\(SqL K H p xs\/SqT K H p xs)/\atI xs i=some v/\Q v H
theorem Cn:IxR X (Dd X.K):=by
 intro value slice pins s σ H x y v u Q I rx ry h hs;obtain⟨p,xs,i,z,h1,h2,hq|hq,he,q⟩:=h
 ·exact bH value slice pins s σ H x y v u Q I rx ry ⟨p,xs,i,z,h1,h2,hq,he,q⟩ hs
 ·exact aG value slice pins s σ H x y v u Q I rx ry ⟨p,xs,i,z,h1,h2,hq,he,q⟩ hs
theorem w4(h:X.K=K):IxR X (Dd K):=h▸Cn
end
theorem oZ(x:Str):∀xs:List Str,inV (.str x) (xs.map V.str)=decide (x∈xs)
 | []=>rfl
 |y::xs=>by
  have ih:=oZ x xs;unfold inV at ih ⊢;rw[Fe,List.any_cons,ih];have e:eqV (.str y) (.str x)=decide (y=x):=by
   show(y==x)=_;by_cases z:y=x
   ·rw[Ey z];exact beq_iff_eq.mpr z
   ·rw[EI z];exact beq_eq_false_iff_ne.mpr z
  rw[e,Fu,F5,Ez,Ez,Ez,Fd];exact⟨fun h=>h.imp (fun a=>a.symm) id,fun h=>h.imp (fun a=>a.symm) id⟩
theorem qh:∀xs:List Str,(xs.map V.str).all k8=true
 | []=>rfl
 |_::xs=>qh xs
noncomputable def jN(xs:List Str)(i:Nat):Bool:=match xs[i]?,xs[i+1]? with
 |some x,some y=>decide (x.cps.toList<y.cps.toList)
 |_,_=>true
theorem om:∀xs:List Str,rise xs=((List.range (xs.length-1)).map (jN xs)).all id
 | []=>rfl
 | [x]=>rfl
 |x::y::l=>by have ih:=om (y::l);unfold rise;rw[ih];show _=((List.range (l.length+1)).map (jN (x::y::l))).all id;rw[List.range_succ_eq_map,Fe,List.all_cons,List.map_map];rfl
theorem Bo(p q t b:Int):PyData.eqv (.tuple [.int p,.int q]) (.tuple [.int t,.int b])=decide ((p,q)=(t,b)):=yT (p,q) (t,b)
theorem Bj{t b p q:Int}(h:we t b p q)(hb:0<b):((p,q)=(t,b))<->Int.gcd t b=1:=by
 constructor
 ·intro e;have e1:p=t:=congrArg Prod.fst e;have e2:q=b:=congrArg Prod.snd e;rw[<-e1,<-e2];exact h.2.1
 ·intro g;have a:=h.fr hb;have c:we t b t b:=⟨hb,g,Int.mul_comm ..⟩;have d:=c.fr hb;rw[a.1,a.2,<-d.1,<-d.2]
theorem zc{d:PyData}(h:∀x y,d≠ .tuple [x,y]):eD d=false:=by
 unfold eD;split
 ·exact absurd rfl (h _ _)
 ·rfl
theorem uB{d:PyData}(h:∀x y,d≠ .tuple [x,y]):fv d=false:=by
 unfold fv;split
 ·exact absurd rfl (h _ _)
 ·rfl
theorem TD.thg{K:Frag}{H:Hp}{d:PyData}{v:V}(h:TD H d v)(hd:d.depth<=4):DK K H v d:=by
 refine⟨h.isD,⟨_,h.ty⟩,h.lay,hd,fun s e=>?_⟩;cases h with
 |str x z l=>cases e;exact z
 |_=>cases e
theorem jt{α:Type}{xs:List α}{p:Nat}{v:α}(h:xs[p-1]?=some v)(h1:1<=p):atI xs (((p:Nat):Int)-1)=some v:=by rw[show((p:Nat):Int)-1=((p-1:Nat):Int) by omega];exact aB h
theorem vP{H:Hp}{d:PyData}{v:V}(h:TD H d v)(hw:∃a b,wi a b d=true):BS v (.int 0)=true/\decide (v=.int 0)=isZ d:=by
 cases h with
 |int i=>refine⟨rfl,?_⟩;show decide (V.int i=V.int 0)=decide (i=0);rw[Fu,Ez,Ez];exact⟨fun e=>V.int.inj e,fun e=>by rw[e]⟩
 |_=>obtain⟨a,b,z⟩:=hw;cases z
theorem qv{a b:Int}{d:PyData}(h:wi a b d=true):∃i,d=.int i/\a<=i/\i<=b:=by
 cases d with
 |int i=>have:(decide (a<=i)&&decide (i<=b))=true:=h;rw[EL,Ez,Ez]at this;exact⟨i,rfl,this⟩
 |_=>cases h
theorem ua:PyData.canLay0 (.str "note")=true:=by decide+kernel
theorem Al:PyData.canLay0 (.str "way")=true:=by decide+kernel
theorem wQ{H:Hp}:∀{es:List PyData}{us:List V},TDs H es us->es.all nmD=true->us=(es.map qy).map V.str
 |_,_,.nil,_=>rfl
 |_,_,.cons a z,h=>by
  rw[List.all_cons,EL]at h;rw[Fe,Fe,<-wQ z h.2];cases a with
  |str x _ _=>rfl
  |_=>cases h.1
def Er(K:Frag)(H:Hp)(v:V)(d:PyData):Prop:=∃a p t b,v=.ref a/\SqT K H a [.str (hnm d),.ref p]/\SqT K H p [.int t,.int b]/\hpt d=(t,b)/\(1<=b/\b<=1000000000)/\(1<=t/\t<=b)/\Int.gcd t b=1
theorem p8{d:PyData}(h:eD d=true):∃t b,d=.tuple [.int t,.int b]/\(1<=b/\b<=1000000000)/\(1<=t/\t<=b)/\Int.gcd t b=1:=by
 unfold eD at h;split at h
 ·rename_i t b;simp only[EL,Ez]at h;exact⟨t,b,rfl,h.1,h.2.1,h.2.2⟩
 ·cases h
theorem uA{K:Frag}{H:Hp}:∀{es:List PyData}{us:List V},TDs H es us->es.all fv=true->Paired (Er K H) us es
 |_,_,.nil,_=>.nil
 |_,_,.cons (d:=d) a z,h=>by
  rw[List.all_cons,EL]at h;refine .cons ?_ (uA z h.2);have h1:=h.1;cases a with
  | @tup c vs ds hc zz=>
   by_cases hh:∃n p,ds=[n,p]
   ·obtain⟨n,p,rfl⟩:=hh;have h1:(nmD n&&eD p)=true:=h1;rw[EL]at h1;obtain⟨h0,h2⟩:=h1;obtain⟨t,b,rfl,g1,g2,g3⟩:=p8 h2;cases zz with
    | @cons _ v0 _ _ z0 zz=>
    cases zz with
    | @cons _ v1 _ _ z1 zz=>
    cases zz;cases z1 with
    | @tup c1 vs1 _ hc1 z1=>
    cases z1 with
    | @cons _ w0 _ _ y0 z1=>
    cases z1 with
    | @cons _ w1 _ _ y1 z1=>
    cases z1;cases y0;cases y1;cases z0 with
    |str x _ _=>exact⟨c,c1,t,b,rfl,SqT.of hc,SqT.of hc1,rfl,g1,g2,g3⟩
    |_=>cases h0
   ·rw[uB fun x y e=>hh ⟨x,y,by cases e;rfl⟩]at h1;cases h1
  |_=>cases h1
theorem wH:∀(fs:List (Int×Int)),(∀f∈fs,1<=f.2/\f.2<=1000000000)->∃D:Int,0<D/\Bd (30*fs.length+1) D/\∀f∈fs,f.2∣D
 | [],_=>⟨1,by decide,Bd.of (by decide),fun _ z=>(List.not_mem_nil z).elim⟩
 |f::fs,h=>by
  obtain⟨D,h1,h2,h3⟩:=wH fs fun g hg=>h g (EZ _ hg);have hf:=h f (Fg ..);refine⟨f.2*D,Int.mul_pos (by omega) h1,?_,fun g hg=>?_⟩
  ·rw[ES];exact((Bd.of (n:=30) (i:=f.2) (by omega)).mul h2).mono (by omega)
  ·rcases Fd.mp hg with e|e
   ·rw[e];exact⟨D,rfl⟩
   ·obtain⟨k,hk⟩:=h3 g e;exact⟨f.2*k,by rw[hk,<-Int.mul_assoc,Int.mul_comm f.2 g.2,Int.mul_assoc]⟩
noncomputable def gs(w h:Nat)(ds:List PyData):Nat->List Lk->Option Nat
 |_,[]=>none
 |i,l::ls=>if lkB w h ds i l=true then gs w h ds (i+1) ls else some i
noncomputable def fu:PyData->Option (List Lk)
 | .tuple (.str x::r)=>match bE x with
  |some ls=>if r.length=ls.length then some ls else none
  |none=>none
 |_=>none
noncomputable def dX(w h:Nat)(d:PyData):Option Nat:=match d,fu d with
 | .tuple ds,some ls=>gs w h ds 1 ls
 |_,_=>some 0
theorem lR{w h:Nat}{ds:List PyData}:∀{ls:List Lk}{i:Nat},gs w h ds i ls=none->∀j l,ls[j]?=some l->lkB w h ds (i+j) l=true
 | [],_,_,_,_,e=>by simp at e
 |l::ls,i,hb,j,l',e=>by
  unfold gs at hb;by_cases z:lkB w h ds i l=true
  ·rw[Fl z]at hb;cases j with
   |zero=>simp at e;subst e;exact z
   |succ j=>rw[FJ]at e;have:=lR hb j l' e;rwa[show i+1+j=i+(j+1) by omega]at this
  ·rw[Fb z]at hb;cases hb
theorem lS{w h:Nat}{ds:List PyData}:∀(as bs:List Lk)(i:Nat),gs w h ds i (as++bs)=(gs w h ds i as).or (gs w h ds (i+as.length) bs)
 | [],bs,i=>rfl
 |a::as,bs,i=>by
  rw[List.cons_append,show gs w h ds i (a::(as++bs))=if lkB w h ds i a=true then gs w h ds (i+1) (as++bs)else some i from rfl,show gs w h ds i (a::as)=if lkB w h ds i a=true then gs w h ds (i+1) as else some i from rfl];by_cases z:lkB w h ds i a=true
  ·rw[Fl z,Fl z,lS as bs (i+1),ES,show i+1+as.length=i+(as.length+1) by omega]
  ·rw[Fb z,Fb z];rfl
theorem um{x:Str}{ls:List Lk}(e:bE x=some ls):(∀i:Nat,ls[i]?=some .grd->ls[3]?=some .cell/\3<i)/\((Lk.til∈ls\/Lk.over∈ls\/Lk.note∈ls)->5<=ls.length):=by
 have key:∀ls∈[[Lk.num,.date,.sgn,.pc,.shr],[.num,.date,.sgn,.cell,.axis,.line],[.num,.date,.sgn,.cell,.ocell],[.num,.date,.sgn,.cell,.name,.oname,.part,.grd,.trust],[.num,.date,.sgn,.cell,.bkind,.name,.amt,.til,.over,.note,.grd,.trust],[.num,.date,.sgn,.cell,.num],[.num,.date,.sgn,.cell,.num,.onum]],(∀i∈List.range 12,ls[i]?=some .grd->ls[3]?=some .cell/\3<i)/\5<=ls.length/\ls.length<=12:=by decide
 have m:ls∈[[Lk.num,.date,.sgn,.pc,.shr],[.num,.date,.sgn,.cell,.axis,.line],[.num,.date,.sgn,.cell,.ocell],[.num,.date,.sgn,.cell,.name,.oname,.part,.grd,.trust],[.num,.date,.sgn,.cell,.bkind,.name,.amt,.til,.over,.note,.grd,.trust],[.num,.date,.sgn,.cell,.num],[.num,.date,.sgn,.cell,.num,.onum]]:=by
  unfold bE at e
  repeat' split at e
  all_goals first|(cases e;simp)|cases e
 obtain⟨k1,k2,k3⟩:=key ls m;refine⟨fun i hi=>k1 i (FC.mpr ?_) hi,fun _=>k2⟩;have:=(ED.mp hi).1;omega
theorem pre_of{w h:Nat}{x:Str}{r:List PyData}{ls:List Lk}(e:bE x=some ls)(lr:r.length=ls.length){i:Nat}{l:Lk}(hl:ls[i]?=some l)(hb:gs w h (.str x::r) 1 (ls.take i)=none):Dk (.str x::r) l:=by
 obtain⟨g1,g2⟩:=um e;have ml:=EY hl;cases l with
 |grd=>
  obtain⟨h3,i3⟩:=g1 i hl;have:=lR hb 3 .cell (by rw[List.getElem?_take,Fl i3];exact h3);have e4:wi 0 ((w:Int)*h-1) (thg (.str x::r) 4)=true:=this;obtain⟨k,ek,_⟩:=qv e4;have l4:4<(PyData.str x::r).length:=by have:=(ED.mp h3).1;rw[ES];omega
  refine⟨k,?_⟩;have e5:thg (.str x::r) 4=(PyData.str x::r)[4]:=by unfold thg;rw[ER l4];rfl
  rw[ER l4,<-e5,ek]
 |til=>show 5<(PyData.str x::r).length;rw[ES];have:=g2 (.inl ml);omega
 |over=>show 5<(PyData.str x::r).length;rw[ES];have:=g2 (.inr (.inl ml));omega
 |note=>show 5<(PyData.str x::r).length;rw[ES];have:=g2 (.inr (.inr ml));omega
 |_=>trivial
theorem zZ{K:Frag}{mg:Str->Option Value}{CF:Addr}{H0 Hc:Hp}{E:XK}{tv v:V}(z:wj mg "BadPaper" CF)(xc:sj K CF)(s:aq H0 Hc)
  (e:∀dx H',aq Hc H'->H' dx=some (XD dx [("place",v)])->E (vX mg "BadPaper") (some dx) H'):
  ∀x,Hc x=none->BN CF "place" [.ref x,tv,v] (upd Hc x (XO x CF none)) (fun v' H2=>v'=.non/\∃x' C od,V.ref x=.ref x'/\H2 x'=some (XO x' C od)/\sj K C/\RzW H0 E x' (.ref C) od H2) E0:=by
 intro x hx;refine⟨x,tv,v,rfl,ag,fun dx hd ne=>⟨rfl,x,CF,some dx,rfl,?_,xc,s.free hx,?_⟩⟩
 ·rw[aN (fun y=>ne y.symm)];exact ag
 ·rw[<-uJ z];have hdc:Hc dx=none:=by
   rw[aN ne]at hd;exact hd
  refine e dx _ (fun b o h=>?_) ?_
  ·have n1:b≠x:=fun y=>by rw[y,hx]at h;cases h
   have n2:b≠dx:=fun y=>by rw[y,hdc]at h;cases h
   rw[fw n1,aN n2,aN n1,aN n1];exact h
  ·rw[fw ne];exact ag
theorem ux{d:PyData}{ls:List Lk}(h:fu d=some ls):∃x r,d=.tuple (.str x::r)/\bE x=some ls/\r.length=ls.length:=by
 unfold fu at h;split at h
 ·rename_i x r;split at h
  ·rename_i ls' e;split at h
   ·cases h;exact⟨x,r,rfl,e,by assumption⟩
   ·cases h
  ·cases h
 ·cases h
noncomputable def nmP(p:Bool)(a:Int)(k:Nat):Str:=if p=true then⟨#[97+k]⟩else Txt.slice (Str.ofString "landmark") none (some a)++⟨#[97+k]⟩++Txt.slice (Str.ofString "landmark") (some (a+1)) none
noncomputable def cC(w:Int)(k:Nat):Str:=nmP (decide (w % 3=0)) (w / 3 % 8) k
theorem zq:∀p∈[true,false],∀a∈[(0:Int),1,2,3,4,5,6,7],∀k∈List.range 13,nmS (nmP p a k)=true/\(nmP p a k).cps.all (·<128)=true/\(nmP p a k).length<=8/\PyData.canLay0 (.str (nmP p a k))=true/\∀j∈List.range 13,k<j->decide ((nmP p a k).cps.toList<(nmP p a j).cps.toList)=true:=by decide+kernel
structure lU(x:Str):Prop where
 nm:nmS x=true
 asc:x.cps.all (·<128)=true/\x.length<=100
 lay:PyData.canLay0 (.str x)=true
theorem eJ(w:Int){k:Nat}(hk:k<13):lU (cC w k)/\∀j,j<13->k<j->decide ((cC w k).cps.toList<(cC w j).cps.toList)=true:=by
 have p:decide (w % 3=0)∈[true,false]:=by cases decide (w % 3=0)<;>decide
 have a:w / 3 % 8∈[(0:Int),1,2,3,4,5,6,7]:=by rcases (show w / 3 % 8=0\/w / 3 % 8=1\/w / 3 % 8=2\/w / 3 % 8=3\/w / 3 % 8=4\/w / 3 % 8=5\/w / 3 % 8=6\/w / 3 % 8=7 by omega)with e|e|e|e|e|e|e|e<;>rw[e]<;>decide
 obtain⟨h1,h2,h3,h4,h5⟩:=zq _ p _ a k (FC.mpr hk);exact⟨⟨h1,⟨h2,by show(nmP _ _ k).length<=100;omega⟩,h4⟩,fun j hj hkj=>h5 j (FC.mpr hj) hkj⟩
theorem lU.td{H:Hp}{x:Str}(h:lU x):TD H (.str x) (.str x):=.str x h.asc h.lay
theorem lU.nmD{x:Str}(h:lU x):nmD (.str x)=true:=h.nm
noncomputable def bA(w:Int)(f m:Nat):List Str:=(List.range m).map fun k=>cC w (f+k)
theorem fJ(w:Int)(f m:Nat):(bA w f m).length=m:=by unfold bA;rw[Ew,List.length_range]
theorem oP{w:Int}{f m:Nat}(h:f+m<=13):∀x∈bA w f m,lU x:=fun x hx=>by obtain⟨k,hk,rfl⟩:=FX.mp hx;rw[FC]at hk;exact(eJ w (by omega)).1
theorem ub{w:Int}{f m:Nat}(h:f+m<=13):rise (bA w f m)=true:=by rw[om,List.all_map,FV];intro i hi;rw[FC,fJ]at hi;show jN (bA w f m) i=true;unfold jN bA;rw[E8,E8,List.getElem?_range (by omega),List.getElem?_range (by omega)];exact(eJ w (by omega)).2 (f+(i+1)) (by omega) (by omega)
theorem nv{H:Hp}:∀{xs:List Str},(∀x∈xs,lU x)->TDs H (xs.map PyData.str) (xs.map V.str)
 | [],_=>.nil
 |x::xs,h=>.cons (h x (Fg ..)).td (nv fun y hy=>h y (EZ _ hy))
theorem sS:∀xs:List Str,(xs.map PyData.str).map qy=xs
 | []=>rfl
 |x::xs=>by rw[Fe,Fe,sS xs];rfl
theorem rW:∀xs:List Str,PyData.depthAll (xs.map PyData.str)=0
 | []=>rfl
 |x::xs=>by show max 0 (PyData.depthAll (xs.map PyData.str))=0;rw[rW xs];rfl
theorem BR{w:Int}{f m:Nat}(h:f+m<=13)(hm:m<=12):jR (.tuple ((bA w f m).map PyData.str))=true:=by show(decide _&&(_&&rise _))=true;rw[Ew,fJ,Ey hm,E1,sS,ub h,Bool.and_true,List.all_map,FV];exact fun x hx=>(oP h x hx).nm
theorem yp{w h c k p j:Nat}(hw:0<w)(hc:c<2^(w*h))(a:cz w h c k p)(hj:p.testBit j=true):cz w h p j p:=fun i=>by
 have b:=a.at hw hc hj;constructor
 ·intro hi;have r:=(b i).mp hi;clear hi
  induction r with
  |here _=>exact .here hj
  |step r n e ih=>exact .step ih n ((b _).mpr (.step r n e))
 ·exact fun r=>r.in
theorem zj{w h c k p:Nat}(hw:0<w)(h64:w*h<=64)(hc:c<2^(w*h))(a:cz w h c k p)(hk:c.testBit k=true):jh w h (.int (p:Nat))=true:=by
 have hp:=a.lt hc;have bk:p.testBit k=true:=(a k).mpr (.here hk);have p0:p≠0:=fun z=>by rw[z]at bk;simp at bk
 have lp64:=EB hp (EN (by decide) h64);have lo:=(ia lp64 p0).1
 have is:gv w h p [p]:=.cons p0 (yp hw hc a lo) (by
  have:dif p p=0:=xm fun j=>by rw[jw];cases p.testBit j<;>simp
  rw[this]
  exact .nil)
 show(decide _&&decide _&& @decide _ (Classical.propDecidable _))=true;rw[Ey (show(1:Int)<=(p:Nat) by omega),Ey (show((p:Nat):Int)<=((2^(w*h)-1:Nat):Int) by omega),ET];exact @Ey _ (Classical.propDecidable _) ⟨[p],is,rfl⟩
theorem wL{t b:Int}(h1:1<=t)(h2:t<=b)(h3:b<=1000000000):eD (.tuple [.int (frT t b),.int (frB t b)])=true:=by
 have hb:0<b:=by omega
 have p:=rV (t:=t) hb;have c:=vS (t:=t) hb;have e:=k7 t b;have t0:0<frT t b:=by refine Int.lt_of_not_ge fun z=>?_;have a1:frT t b*b<=0:=Int.mul_nonpos_of_nonpos_of_nonneg z (by omega);have a2:0<frB t b*t:=Int.mul_pos p (by omega);omega
 have tb:frT t b<=frB t b:=by refine Int.le_of_not_gt fun z=>?_;have a1:frB t b*t<=frB t b*b:=Int.mul_le_mul_of_nonneg_left h2 (by omega);have a2:frB t b*b<frT t b*b:=Int.mul_lt_mul_of_pos_right z hb;omega
 have bb:frB t b<=b:=by have d:frB t b∣b:=xi (by exact c) e;exact Int.le_of_dvd hb d
 show(decide _&&decide _&&(decide _&&decide _&&decide _))=true;rw[Ey (show 1<=frB t b by omega),Ey (show frB t b<=1000000000 by omega),Ey (show 1<=frT t b by omega),Ey tb,Ey c];rfl
theorem zd(g k:Nat):Builtin.bitOr ((g:Nat):Int) (1*2^((k:Nat):Int).toNat)=((g||| 2^k:Nat):Int):=by rw[Int.one_mul,ET,show((2:Int)^k)=((2^k:Nat):Int) by simp,My.mG]
theorem wq{a b i:Int}(h:i<a\/b<i):wi a b (.int i)=false:=by
 show(decide _&&decide _)=false;rcases h with h|h
 ·rw[EI (by omega),EO]
 ·rw[EI (show ¬i<=b by omega),Fi]
theorem wW:PyData.canLay0 (.str "1")=true/\PyData.canLay0 (.str "")=true:=by decide+kernel
section
variable{X:Cx}{K:Frag}
def BD(K:Frag):List V->Hp->VK->Prop:=fun xs H Q=>∃x C od c cv b,xs=[.ref x,c]/\H x=some (XN x C od)/\sk K C/\RelV c cv/\(∀u,RelV c u->u=cv)/\kitOne K (.ref C) cv=some b/\Q (.bl b) H
theorem XN.cls{pins:List (Addr×Obj)}{σ:St}{H:Hp}{s:Shared}{x C:Addr}{od:Option Addr}(I:Inv X pins σ H s)(h:H x=some (XN x C od)):∃o,s.heap.get? x=some o/\o.cls=.ref C:=by obtain⟨o,vs,e1,e2,_⟩:=(I.hok x _ h).1;exact⟨o,e1,e2⟩
theorem yq:fG X (.builtin "isinstance") (BD X.K):=by intro pins s σ H xs us Q I rs h;obtain⟨x,C,od,c,cv,b,rfl,hx,Z,rc,uc,e,q⟩:=h;obtain⟨u1,u2,rfl,r1,r2⟩:=vals2 rs;cases r1;obtain rfl:=uc u2 r2;exact FF (uw Z) I.kIn (XN.cls I hx) e (fun z=>nomatch z) fun tk=>⟨.bl b,H,I.tok _,rfl,q⟩
theorem pq(h:X.K=K):fG X (.builtin "isinstance") (BD K):=h▸yq
def yP(K:Frag):List V->Hp->VK->Prop:=fun xs H Q=>∃x C od tp C1 C2 b1 b2,xs=[.ref x,.ref tp]/\H x=some (XN x C od)/\sk K C/\SqT K H tp [.ref C1,.ref C2]/\kitOne K (.ref C) (.ref C1)=some b1/\kitOne K (.ref C) (.ref C2)=some b2/\Q (.bl (b1||b2)) H
theorem vZ:fG X (.builtin "isinstance") (yP X.K):=by
 intro pins s σ H xs us Q I rs h;obtain⟨x,C,od,tp,C1,C2,b1,b2,rfl,hx,Z,ht,e1,e2,q⟩:=h;obtain⟨u1,u2,rfl,r1,r2⟩:=vals2 rs;cases r1;cases r2;obtain⟨its,rv,⟨o,ho,hc,n,hd⟩,_⟩:=I.tuple ht;obtain⟨v1,v2,rfl,rv1,rv2⟩:=vals2 rv;cases rv1;cases rv2;obtain⟨oc,od',odt,osl⟩:=o;have hc':oc=.type "tuple":=hc;have hd':odt=.seq [Value.ref C1,Value.ref C2].toArray n:=hd;subst hc' hd';have e:PySem.W.kitAny X.K (.ref C) [.ref C1,.ref C2]=some (b1||b2):=by cases b1<;>cases b2<;>simp[PySem.W.kitAny,e1,e2]
 exact PySem.W.kia_tup (uw Z) I.kIn (XN.cls I hx) ho e (fun z=>nomatch z) fun tk=>⟨.bl (b1||b2),H,I.tok _,rfl,q⟩
theorem uL(h:X.K=K):fG X (.builtin "isinstance") (yP K):=h▸vZ
end
end L2
namespace L2
theorem st4{σ:St}(h:σ.length=4):∃o0 o1 o2 o3,σ=[o0,o1,o2,o3]:=match σ,h with| [a,b,c,d],_=>⟨a,b,c,d,rfl⟩
end L2
namespace L2
open PySem PySem.Spec PyProof.Rows LM
noncomputable def xa(w:World)(z:Str×Tok×Value):DictEntry:={hash:=PyData.keyHash w.params z.1,key:=.str z.1 z.2.1,val:=z.2.2}
theorem tO{P:Program}{w:World}:∀(zs:List (Str×Tok×Value)),Pairs (fK P w) (zs.map (xa w)) (zs.map fun z=>((.inr z.1:Key),z.2.2))
 | []=>.nil
 |z::zs=>.cons (wY (k:=.inr z.1) ⟨z.2.1,rfl⟩) rfl (tO zs)
theorem Cp{P:Program}{w:World}{K:Frag}{p:Addr}{n:Nat}{zs:List (Str×Tok×Value)}{kvs:List (Str×V)}(sm:(p==sysModules)=false)
  (l:K.lookup p=some {cls:=.type "dict",data:=.dict (zs.map (xa w)).toArray n}) (nd:(zs.map (·.1)).Nodup) (r:Paired (fun(a:Str×V) (z:Str×Tok×Value)=>a.1=z.1/\RelV a.2 z.2.2) kvs zs):GDk P w K p kvs:=by
 refine⟨sm,_,zs.map fun z=>((.inr z.1:Key),z.2.2),l,⟨_,_,⟨rfl,rfl,rfl⟩,rfl,fun e he=>?_,?_,?_⟩,?_⟩
 ·have he':e∈zs.map (xa w):=by simpa using he
  obtain⟨z,hz,rfl⟩:=FX.mp he';exact⟨.inr z.1,wY (k:=.inr z.1) ⟨z.2.1,rfl⟩,rfl⟩
 ·show Pairs (fK P w) (zs.map (xa w)) _;exact tO zs
 ·rw[List.map_map];rw[List.nodup_iff_pairwise_ne,List.pairwise_map]at nd ⊢;exact nd.imp fun h e=>h (Sum.inr.inj e)
 ·unfold KV;clear nd l
  induction r with
  |nil=>exact .nil
  |cons a _ ih=>exact .cons ⟨congrArg Sum.inr a.1,a.2⟩ ih
theorem zy{P:Program}{w:World}{K:Frag}{h:Heap}{mg:Str->Option Value}{p t1 t2 t3 t4 t5 t6 t7:Addr}{u1 u2 u3 u4 u5 u6 u7:Tok}{n m1 m2 m3 m4 m5 m6 m7:Nat}
  {f1 f2 f3 f4 f5 f6 f7 f8 f9 f10 f11 f12 f13 f14 f15 f16 f17 f18 f19 f20:Addr} (X:K.In h) (G:h.Ns mainGlobals mg)
  (a:nsIn K mainGlobals "LOOKS"=some (some (.ref p))) (sm:(p==sysModules)=false)
  (l:K.lookup p=some {cls:=.type "dict",data:=.dict #[{hash:=PyData.keyHash w.params "grant",key:=.str "grant" u1,val:=.ref t1},{hash:=PyData.keyHash w.params "cut",key:=.str "cut" u2,val:=.ref t2},{hash:=PyData.keyHash w.params "join",key:=.str "join" u3,val:=.ref t3},{hash:=PyData.keyHash w.params "give",key:=.str "give" u4,val:=.ref t4},{hash:=PyData.keyHash w.params "lay",key:=.str "lay" u5,val:=.ref t5},{hash:=PyData.keyHash w.params "lift",key:=.str "lift" u6,val:=.ref t6},{hash:=PyData.keyHash w.params "waive",key:=.str "waive" u7,val:=.ref t7}] n})
  (g1:nsIn K mainGlobals "good_number"=some (some (.ref f1))) (g2:nsIn K mainGlobals "good_other_number"=some (some (.ref f2))) (g3:nsIn K mainGlobals "good_date"=some (some (.ref f3))) (g4:nsIn K mainGlobals "good_signed"=some (some (.ref f4)))
  (g5:nsIn K mainGlobals "good_piece"=some (some (.ref f5))) (g6:nsIn K mainGlobals "good_shares"=some (some (.ref f6))) (g7:nsIn K mainGlobals "good_cell"=some (some (.ref f7))) (g8:nsIn K mainGlobals "good_other_cell"=some (some (.ref f8)))
  (g9:nsIn K mainGlobals "good_axis"=some (some (.ref f9))) (g10:nsIn K mainGlobals "good_line"=some (some (.ref f10))) (g11:nsIn K mainGlobals "good_name"=some (some (.ref f11))) (g12:nsIn K mainGlobals "good_other_name"=some (some (.ref f12)))
  (g13:nsIn K mainGlobals "good_part"=some (some (.ref f13))) (g14:nsIn K mainGlobals "good_ground"=some (some (.ref f14))) (g15:nsIn K mainGlobals "good_trust"=some (some (.ref f15))) (g16:nsIn K mainGlobals "good_burden_kind"=some (some (.ref f16)))
  (g17:nsIn K mainGlobals "good_amount"=some (some (.ref f17))) (g18:nsIn K mainGlobals "good_until"=some (some (.ref f18))) (g19:nsIn K mainGlobals "good_over"=some (some (.ref f19))) (g20:nsIn K mainGlobals "good_note"=some (some (.ref f20)))
  (c1:K.lookup t1=some {cls:=.type "tuple",data:=.seq #[.ref f1,.ref f3,.ref f4,.ref f5,.ref f6] m1}) (c2:K.lookup t2=some {cls:=.type "tuple",data:=.seq #[.ref f1,.ref f3,.ref f4,.ref f7,.ref f9,.ref f10] m2}) (c3:K.lookup t3=some {cls:=.type "tuple",data:=.seq #[.ref f1,.ref f3,.ref f4,.ref f7,.ref f8] m3})
  (c4:K.lookup t4=some {cls:=.type "tuple",data:=.seq #[.ref f1,.ref f3,.ref f4,.ref f7,.ref f11,.ref f12,.ref f13,.ref f14,.ref f15] m4}) (c5:K.lookup t5=some {cls:=.type "tuple",data:=.seq #[.ref f1,.ref f3,.ref f4,.ref f7,.ref f16,.ref f11,.ref f17,.ref f18,.ref f19,.ref f20,.ref f14,.ref f15] m5})
  (c6:K.lookup t6=some {cls:=.type "tuple",data:=.seq #[.ref f1,.ref f3,.ref f4,.ref f7,.ref f1] m6}) (c7:K.lookup t7=some {cls:=.type "tuple",data:=.seq #[.ref f1,.ref f3,.ref f4,.ref f7,.ref f1,.ref f2] m7}):wc P w K mg:=by
 have m:=fun {x:Str} {f:Addr} (g:nsIn K mainGlobals x=some (some (.ref f)))=>FW X G g
 have sq:∀{t:Addr}{fs:List Addr}{k:Nat},K.lookup t=some {cls:=.type "tuple",data:=.seq (fs.map Value.ref).toArray k}->(fs.length<=20)->∀H,SqT K H t (fs.map V.ref):=fun {t fs k} c lf H=>.inr ⟨_,_,_,c,rfl,rfl,by rw[EJ,Ew,sizeLine_eq];omega,by
  have:∀fs:List Addr,Vals (fs.map V.ref) (fs.map Value.ref):=fun fs=>by
   induction fs with
   |nil=>exact .nil
   |cons f fs ih=>exact .cons rfl ih
  exact this fs⟩
 refine⟨p,[("grant",.ref t1),("cut",.ref t2),("join",.ref t3),("give",.ref t4),("lay",.ref t5),("lift",.ref t6),("waive",.ref t7)],m a,Cp (zs:=[("grant",u1,.ref t1),("cut",u2,.ref t2),("join",u3,.ref t3),("give",u4,.ref t4),("lay",u5,.ref t5),("lift",u6,.ref t6),("waive",u7,.ref t7)]) sm l (show(["grant","cut","join","give","lay","lift","waive"]:List Str).Nodup by decide) (.cons ⟨rfl,rfl⟩ (.cons ⟨rfl,rfl⟩ (.cons ⟨rfl,rfl⟩ (.cons ⟨rfl,rfl⟩ (.cons ⟨rfl,rfl⟩ (.cons ⟨rfl,rfl⟩ (.cons ⟨rfl,rfl⟩ .nil))))))),fun x hx=>?_,fun x ns hx=>?_⟩
 ·unfold qe at hx
  repeat' split at hx
  all_goals try (cases hx;done)
  rename_i n1 n2 n3 n4 n5 n6 n7;unfold atS;simp only[List.find?_cons,List.find?_nil,EI (fun e=>n1 (Eq.symm e)),EI (fun e=>n2 (Eq.symm e)),EI (fun e=>n3 (Eq.symm e)),EI (fun e=>n4 (Eq.symm e)),EI (fun e=>n5 (Eq.symm e)),EI (fun e=>n6 (Eq.symm e)),EI (fun e=>n7 (Eq.symm e))];rfl
 ·unfold qe at hx
  repeat' split at hx
  all_goals try (cases hx;done)
  all_goals (rename_i e;subst e;cases hx)
  ·exact⟨t1,[f1,f3,f4,f5,f6],rfl,sq c1 (Et rfl),.cons (m g1) (.cons (m g3) (.cons (m g4) (.cons (m g5) (.cons (m g6) .nil))))⟩
  ·exact⟨t2,[f1,f3,f4,f7,f9,f10],rfl,sq c2 (Et rfl),.cons (m g1) (.cons (m g3) (.cons (m g4) (.cons (m g7) (.cons (m g9) (.cons (m g10) .nil)))))⟩
  ·exact⟨t3,[f1,f3,f4,f7,f8],rfl,sq c3 (Et rfl),.cons (m g1) (.cons (m g3) (.cons (m g4) (.cons (m g7) (.cons (m g8) .nil))))⟩
  ·exact⟨t4,[f1,f3,f4,f7,f11,f12,f13,f14,f15],rfl,sq c4 (Et rfl),.cons (m g1) (.cons (m g3) (.cons (m g4) (.cons (m g7) (.cons (m g11) (.cons (m g12) (.cons (m g13) (.cons (m g14) (.cons (m g15) .nil))))))))⟩
  ·exact⟨t5,[f1,f3,f4,f7,f16,f11,f17,f18,f19,f20,f14,f15],rfl,sq c5 (Et rfl),.cons (m g1) (.cons (m g3) (.cons (m g4) (.cons (m g7) (.cons (m g16) (.cons (m g11) (.cons (m g17) (.cons (m g18) (.cons (m g19) (.cons (m g20) (.cons (m g14) (.cons (m g15) .nil)))))))))))⟩
  ·exact⟨t6,[f1,f3,f4,f7,f1],rfl,sq c6 (Et rfl),.cons (m g1) (.cons (m g3) (.cons (m g4) (.cons (m g7) (.cons (m g1) .nil))))⟩
  ·exact⟨t7,[f1,f3,f4,f7,f1,f2],rfl,sq c7 (Et rfl),.cons (m g1) (.cons (m g3) (.cons (m g4) (.cons (m g7) (.cons (m g1) (.cons (m g2) .nil)))))⟩
def qz(d:PyData):TE:=fun _ H Q=>∀v H',aq H H'->TD H' d v->Q v H'
def sV(ds:List PyData):TA:=fun _ H Q=>∀vs H',aq H H'->TDs H' ds vs->Q vs H'
section
variable{X:Cx}{e:Expr}{es:List Expr}{t t':TE}{ta:TA}{d:PyData}{ds:List PyData}{pos:Pos}
theorem gh(h:PE X e t)(c:∀σ H Q,t' σ H Q->t σ H Q):PE X e t':=fun pins s σ H Q I q=>h pins s σ H Q I (c σ H Q q)
theorem j7{j}:PE X (.Constant .none j pos) (qz .none):=gh jg fun σ H Q q=>q _ _ (aq.refl _) .non
theorem uu{b:Bool}{j}:PE X (.Constant (.bool b) j pos) (qz (.bool b)):=gh eI fun σ H Q q=>q _ _ (aq.refl _) (.bl _)
theorem aQ{i:Int}{j}:PE X (.Constant (.int i) j pos) (qz (.int i)):=gh ae fun σ H Q q=>q _ _ (aq.refl _) (.int _)
theorem aW{x:Str}{j}(h:x.cps.all (·<128)=true/\x.length<=100)(l:PyData.canLay0 (.str x)=true):PE X (.Constant (.str x) j pos) (qz (.str x)):=gh aO fun σ H Q q=>q _ _ (aq.refl _) (.str _ h l)
theorem eK{i:Int}(h:PE X e t)(c:∀σ H(Q:VK),Q (.int i) H->t σ H Q):PE X e (qz (.int i)):=gh h fun σ H Q q=>c σ H Q (q _ _ (aq.refl _) (.int _))
theorem wM{ta ta':TA}(h:PA X es ta)(c:∀σ H Q,ta' σ H Q->ta σ H Q):PA X es ta':=fun p pins s σ H Q I q=>h p pins s σ H Q I (c σ H Q q)
theorem aE:PA X [] (sV []):=wM af fun σ H Q q=>q [] H (aq.refl _) .nil
theorem ak(h:PE X e (qz d))(z:PA X es (sV ds))(hst:starEach (e::es) X.env=(false,eval e X.env)::starEach es X.env:=by rfl):PA X (e::es) (sV (d::ds)):=
 wM (aa h z hst) fun σ H Q q v H1 s1 t1 vs H2 s2 t2=>q _ _ (s1.trans s2) (.cons (t1.same s2) t2)
theorem aJ{x1:Nat}(z:PA X es (sV ds))(hl:ds.length<=500:=by exact Et rfl):PE X (.Tuple es x1 pos) (qz (.tuple ds)):=
 gh (bu z) fun σ H Q q vs H1 s1 t1=>⟨FL (aM (by rw[t1.len];omega)),fun a ha=>q _ _ (s1.trans (aq.upd ha)) (.tup ag (t1.same (aq.upd ha)))⟩
theorem eU(z:PA X es (sV ds))(hl:ds.length<=500:=by exact Et rfl):PE X (.List es pos) (qz (.list ds)):=
 gh (bK z) fun σ H Q q vs H1 s1 t1=>⟨FL (aM (by rw[t1.len];omega)),fun a ha=>q _ _ (s1.trans (aq.upd ha)) (.lst ag (t1.same (aq.upd ha)))⟩
end
theorem TD.lstE{H:Hp}{ds:List PyData}{v:V}(h:TD H (.list ds) v):∃l vs,v=.ref l/\H l=some (.lst vs)/\TDs H ds vs:=by
 cases h with
 |lst h z=>exact⟨_,_,rfl,h,z⟩
theorem TD.tupE{H:Hp}{ds:List PyData}{v:V}(h:TD H (.tuple ds) v):∃l vs,v=.ref l/\H l=some (.tup vs)/\TDs H ds vs:=by
 cases h with
 |tup h z=>exact⟨_,_,rfl,h,z⟩
theorem vy{t b m:Int}(h:2<=m):eD (.tuple [.int (t*m),.int (b*m)])=false:=by
 have g:Int.gcd (t*m) (b*m)≠1:=fun e=>by have a1:m∣((Int.gcd (t*m) (b*m):Nat):Int):=Int.dvd_coe_gcd ⟨t,Int.mul_comm ..⟩ ⟨b,Int.mul_comm ..⟩;rw[e]at a1;have:=Int.le_of_dvd (by decide) a1;omega
 show(decide _&&decide _&&(decide _&&decide _&&decide _))=false;rw[EI g,Fi,Fi]
theorem TDs.pickB{H:Hp}{ds:List PyData}{vs:List V}(td:TDs H ds vs)(p:PyData->Bool){k:Nat}(hk:k<ds.length)(all:ds.all p=true):∃v d,vs[k]?=some v/\TD H d v/\p d=true:=by obtain⟨d,hd⟩:∃d,ds[k]?=some d:=⟨_,ER hk⟩;obtain⟨v,hv,tv⟩:=td.at hd;exact⟨v,d,hv,tv,FV.mp all d (EY hd)⟩
theorem TDs.pickP{H:Hp}{ds:List PyData}{vs:List V}(td:TDs H ds vs){P:PyData->Prop}{k:Nat}(hk:k<ds.length)(all:∀d∈ds,P d):∃v d,vs[k]?=some v/\TD H d v/\P d:=by obtain⟨d,hd⟩:∃d,ds[k]?=some d:=⟨_,ER hk⟩;obtain⟨v,hv,tv⟩:=td.at hd;exact⟨v,d,hv,tv,all d (EY hd)⟩
theorem vJ{a:Bool}{n m:Nat}(h:(!a&&decide (n<=m))=true):a=false/\n<=m:=by
 cases a with
 |true=>exact absurd h (by simp)
 |false=>exact⟨rfl,EA (by simpa using h)⟩
theorem qB{ds:List PyData}{d:PyData}(h:nmD d=false):jR (.tuple (ds++[d]))=false:=by show(decide _&&((ds++[d]).all nmD&&_))=false;rw[List.all_append,show[d].all nmD=false by simp[h],Fi,EO,Fi]
theorem vY{X:Cx}{K:Frag}(h:X.K=K)(hc:X.calm=true):fG X (.builtin "sum") (fun xs H Q=>∃(p:Addr)(ns:List Int),xs=[.ref p]/\SqL K H p (ns.map V.int)/\Q (.int ns.sum) H):=h▸qj hc
theorem iN{a b i:Int}(h1:a<=i)(h2:i<=b):wi a b (.int i)=true:=by show(decide (a<=i)&&decide (i<=b))=true;rw[Ey h1,Ey h2];rfl
noncomputable def wdD(T:Int)(L:Ws):List PyData:=L.map fun p=>.tuple [.str p.1,.tuple [.int (frT p.2 T),.int (frB p.2 T)]]
theorem sum_in:∀{ws:List Int},(∀x∈ws,0<x)->0<=ws.sum/\∀x∈ws,x<=ws.sum
 | [],_=>⟨Int.le_refl _,fun _ h=>nomatch h⟩
 |y::ws,h=>by
  obtain⟨i0,i1⟩:=sum_in (ws:=ws) fun x hx=>h x (EZ _ hx);have:=h y (Fg ..);rw[List.sum_cons];refine⟨by omega,fun x hx=>?_⟩;rcases Fd.mp hx with e|e
  ·omega
  ·have:=i1 x e;omega
theorem wt(T:Int):∀L:Ws,PyData.depthAll (wdD T L)<=2
 | []=>EH _
 |p::L=>by show max _ (PyData.depthAll (wdD T L))<=2;exact Nat.max_le.mpr ⟨Et rfl,wt T L⟩
theorem BP{L:Ws}(n1:1<=L.length)(n2:L.length<=12)(nm:∀p∈L,lU p.1)(rs:rise (L.map (·.1))=true)(pos:∀p∈L,0<p.2)(t:gW L<=1000000000):jB (.tuple (wdD (gW L) L))=true:=by
 have hin:=sum_in (ws:=L.map (·.2)) fun x hx=>by obtain⟨p,hp,rfl⟩:=FX.mp hx;exact pos p hp
 have hL:0<gW L:=by
  cases L with
  |nil=>cases n1
  |cons p L=>have a:=hin.2 p.2 (FX.mpr ⟨p,Fg ..,rfl⟩);have b:=pos p (Fg ..);exact Int.lt_of_lt_of_le b a
 have ea:(wdD (gW L) L).all fv=true:=by unfold wdD;rw[List.all_map,FV];intro p hp;show(nmD (.str p.1)&&eD _)=true;rw[(nm p hp).nmD,wL (b:=gW L) (pos p hp) (hin.2 p.2 (FX.mpr ⟨p,hp,rfl⟩)) t];rfl
 have e1:(wdD (gW L) L).map hnm=L.map (·.1):=by unfold wdD;rw[List.map_map];rfl
 have e2:(wdD (gW L) L).map hpt=(wSh L).map (·.2):=by unfold wdD;rw[List.map_map,List.map_map];rfl
 have ok:∀p∈wSh L,kf p.2:=fun p hp=>by obtain⟨q,_,rfl⟩:=FX.mp hp;exact rT _ hL
 have es:sumF ((wSh L).map (·.2))=(1,1):=by
  have q:=xv (S:=wSh L) ok;have one:(((L.map (·.2)).sum:Int):Rat) / ((gW L:Int):Rat)=1:=by show((gW L:Int):Rat) / ((gW L:Int):Rat)=1;have:=lP hL;grind
  rw[wx hL,one,<-Di]at q;refine Eg ?_ ⟨by decide,by decide⟩ q
  exact(yQ fun f hf=>by
   obtain⟨p,hp,rfl⟩:=FX.mp hf
   exact ok p hp).2
 have el:(wdD (gW L) L).length=L.length:=by unfold wdD;rw[Ew]
 show(decide (1<=(wdD (gW L) L).length)&&decide ((wdD (gW L) L).length<=12)&&((wdD (gW L) L).all fv&&(rise ((wdD (gW L) L).map hnm)&&decide (sumF ((wdD (gW L) L).map hpt)=(1,1)))))=true;rw[el,Ey n1,Ey n2,ea,e1,rs,e2,Ey es];rfl
def WdE(T:Int)(H:Hp)(v:V)(p:Str×Int):Prop:=∃r q,v=.ref r/\H r=some (.tup [.str p.1,.ref q])/\H q=some (.tup [.int (frT p.2 T),.int (frB p.2 T)])
theorem WdE.tk{T:Int}{H H':Hp}{v:V}{p:Str×Int}(s:TK H H')(h:WdE T H v p):WdE T H' v p:=by obtain⟨r,q,e,h1,h2⟩:=h;exact⟨r,q,e,s.1 _ _ h1,s.1 _ _ h2⟩
theorem CL{T:Int}{H:Hp}{vs:List V}{L:Ws}(hI:Paired (WdE T H) vs L):(∀p∈L,lU p.1)->TDs H (wdD T L) vs:=by
 induction hI with
 |nil=>exact fun _=>.nil
 |cons hI0 z ih=>obtain⟨r,q,e,h1,h2⟩:=hI0;intro h;subst e;exact .cons (.tup h1 (.cons (h _ (Fg ..)).td (.cons (.tup h2 (.cons (.int _) (.cons (.int _) .nil))) .nil))) (ih fun p hp=>h p (EZ _ hp))
theorem nN:∀{ws:List Int},(∀x∈ws,1<=x/\x<=1000)->0<=ws.sum/\ws.sum<=1000*ws.length
 | [],_=>⟨Int.le_refl _,Int.le_refl _⟩
 |y::ws,h=>by obtain⟨i0,i1⟩:=nN (ws:=ws) fun x hx=>h x (EZ _ hx);have:=h y (Fg ..);rw[List.sum_cons,ES];omega
theorem Ah{ns:List Str}{ws:List Int}(h:ws.length=ns.length):(ns.zip ws).map (·.1)=ns/\(ns.zip ws).map (·.2)=ws:=by
 constructor
 ·exact List.map_fst_zip (by omega)
 ·exact List.map_snd_zip (by omega)
structure DO(w h:Nat)(ks x:Str)(a u o n:Int):Prop where
 kd:ks∈(["debt","way","buy","note"]:List Str)
 nm:lU x
 am:0<=a/\a<=1000000000000
 un:(0<=u/\u<=1000000000)/\(u=0\/ks="note")
 ov:(ks="way"->jh w h (.int o)=true)/\(ks≠"way"->o=0)
 no:(0<=n/\n<=1000000000)/\(n=0\/ks≠"note")
theorem aX{w h:Nat}{ds:List PyData}{i:Nat}{l:Lk}{ls:List Lk}(a:lkB w h ds i l=true)(t:gs w h ds (i+1) ls=none):gs w h ds i (l::ls)=none:=by show(if lkB w h ds i l=true then gs w h ds (i+1) ls else some i)=none;rw[Fl a,t]
theorem gk{w h:Nat}{x:Str}{n d:Int}{S:PyData}{r:List PyData}{ls:List Lk}(e:bE x=some (.num:: .date:: .sgn::ls))(lr:r.length=ls.length)(hn:1<=n/\n<=1000000000)(hd:0<=d/\d<=1000000000)(hs:jR S=true)
  (t:gs w h (.str x:: .int n:: .int d::S::r) 4 ls=none):dX w h (.tuple (.str x:: .int n:: .int d::S::r))=none:=by
 have k:fu (.tuple (.str x:: .int n:: .int d::S::r))=some (.num:: .date:: .sgn::ls):=by show(match bE x with|some ls=>if(PyData.int n:: .int d::S::r).length=ls.length then some ls else none|none=>none)=_;rw[e];show(if _ then _ else _)=_;rw[Fl (by simp only[ES,lr])]
 unfold dX;rw[k];exact aX (l:=.num) (iN hn.1 hn.2) (aX (l:=.date) (iN hd.1 hd.2) (aX (l:=.sgn) hs t))
theorem ur:bE "grant"=some [.num,.date,.sgn,.pc,.shr]:=by decide+kernel
theorem zC:bE "cut"=some [.num,.date,.sgn,.cell,.axis,.line]:=by decide+kernel
theorem AY:bE "join"=some [.num,.date,.sgn,.cell,.ocell]:=by decide+kernel
theorem rF:bE "give"=some [.num,.date,.sgn,.cell,.name,.oname,.part,.grd,.trust]:=by decide+kernel
theorem vO:bE "lay"=some [.num,.date,.sgn,.cell,.bkind,.name,.amt,.til,.over,.note,.grd,.trust]:=by decide+kernel
theorem AX:bE "lift"=some [.num,.date,.sgn,.cell,.num]:=by decide+kernel
theorem zB:bE "waive"=some [.num,.date,.sgn,.cell,.num,.onum]:=by decide+kernel
section
variable{w h k:Nat}{n d:Int}{S:PyData}(hn:1<=n/\n<=1000000000)(hd:0<=d/\d<=1000000000)(hs:jR S=true)
include hn hd hs
theorem xM{P T:PyData}(h1:jh w h P=true)(h2:jB T=true):dX w h (.tuple [.str "grant",.int n,.int d,S,P,T])=none:=
 gk ur rfl hn hd hs (aX (l:=.pc) h1 (aX (l:=.shr) h2 rfl))
theorem cell_in(hk:k<w*h):wi 0 ((w:Int)*h-1) (.int (k:Nat))=true:=iN (by omega) (by
 have e:((w:Int)*(h:Int))=((w*h:Nat):Int):=by simp
 rw[e]
 omega)
theorem AA{x:Str}{i:Int}(hk:k<w*h)(h2:inS ["x","y"] (.str x)=true)(h3:0<=i/\i<=8):dX w h (.tuple [.str "cut",.int n,.int d,S,.int (k:Nat),.str x,.int i])=none:=
 gk zC rfl hn hd hs (aX (l:=.cell) (cell_in hn hd hs hk) (aX (l:=.axis) h2 (aX (l:=.line) (iN h3.1 h3.2) rfl)))
theorem w8{i j:Int}(h:i≠j):(!PyData.eqv (.int i) (.int j))=true:=by show(!decide (i=j))=true;rw[EI h];rfl
theorem yN{j:Nat}(hk:k<w*h)(hj:j<w*h)(ne:j≠k):dX w h (.tuple [.str "join",.int n,.int d,S,.int (k:Nat),.int (j:Nat)])=none:=
 gk AY rfl hn hd hs (aX (l:=.cell) (cell_in hn hd hs hk) (aX (l:=.ocell) (by
  show(wi 0 ((w:Int)*h-1) (.int (j:Nat))&& !PyData.eqv (.int (j:Nat)) (.int (k:Nat)))=true;rw[cell_in hn hd hs hj,w8 hn hd hs (by omega)]
  rfl) rfl))
theorem yM{b:Int}(hk:k<w*h)(hb:1<=b/\b<=1000000000):dX w h (.tuple [.str "lift",.int n,.int d,S,.int (k:Nat),.int b])=none:=
 gk AX rfl hn hd hs (aX (l:=.cell) (cell_in hn hd hs hk) (aX (l:=.num) (iN hb.1 hb.2) rfl))
theorem xK{b o:Int}(hk:k<w*h)(hb:1<=b/\b<=1000000000)(ho:1<=o/\o<=1000000000)(ne:o≠b):dX w h (.tuple [.str "waive",.int n,.int d,S,.int (k:Nat),.int b,.int o])=none:=
 gk zB rfl hn hd hs (aX (l:=.cell) (cell_in hn hd hs hk) (aX (l:=.num) (iN hb.1 hb.2) (aX (l:=.onum) (by
  show(wi 1 1000000000 (.int o)&& !PyData.eqv (.int o) (.int b))=true;rw[iN ho.1 ho.2,w8 hn hd hs ne]
  rfl) rfl)))
theorem yO{x y:Str}{P G T:PyData}(hk:k<w*h)(hx:lU x)(hy:lU y)(ne:x≠y)(hP:eD P=true)(hT:wi 0 ((2^(w*h)-1:Nat):Int) G=true/\(isZ G||o8 G (.int (k:Nat)))=true/\trD T=true):dX w h (.tuple [.str "give",.int n,.int d,S,.int (k:Nat),.str x,.str y,P,G,T])=none:=
 gk rF rfl hn hd hs (aX (l:=.cell) (cell_in hn hd hs hk) (aX (l:=.name) hx.nmD (aX (l:=.oname) (by
  show(nmD (.str y)&& !decide (y=x))=true;rw[hy.nmD,EI (fun z=>ne z.symm)]
  rfl) (aX (l:=.part) hP (aX (l:=.grd) (by
   show(wi 0 ((2^(w*h)-1:Nat):Int) G&&(isZ G||o8 G (.int (k:Nat))))=true;rw[hT.1,hT.2.1]
   rfl) (aX (l:=.trust) hT.2.2 rfl))))))
theorem Az{ks x:Str}{a u o i:Int}{G T:PyData}(hk:k<w*h)(hl:DO w h ks x a u o i)(hT:wi 0 ((2^(w*h)-1:Nat):Int) G=true/\(isZ G||o8 G (.int (k:Nat)))=true/\trD T=true):dX w h (.tuple [.str "lay",.int n,.int d,S,.int (k:Nat),.str ks,.str x,.int a,.int u,.int o,.int i,G,T])=none:=
 gk vO rfl hn hd hs (aX (l:=.cell) (cell_in hn hd hs hk) (aX (l:=.bkind) (Ey hl.kd) (aX (l:=.name) hl.nm.nmD (aX (l:=.amt) (iN hl.am.1 hl.am.2) (aX (l:=.til) (by
   show(wi 0 1000000000 (.int u)&&(decide (u=0)||decide (ks="note")))=true;rw[iN hl.un.1.1 hl.un.1.2]
   rcases hl.un.2 with e|e<;>simp[e])
  (aX (l:=.over) (by
   show(if decide (ks="way")=true then jh w h (.int o)else wi 0 0 (.int o))=true;by_cases e:ks="way"
   ·rw[Fl (Ey e)];exact hl.ov.1 e
   ·rw[Fb (by rw[EI e];exact EE),hl.ov.2 e]
    rfl) (aX (l:=.note) (by
   show(wi 0 1000000000 (.int i)&&(decide (i=0)|| !decide (ks="note")))=true;rw[iN hl.no.1.1 hl.no.1.2]
   rcases hl.no.2 with e|e<;>simp[e])
  (aX (l:=.grd) (by
   show(wi 0 ((2^(w*h)-1:Nat):Int) G&&(isZ G||o8 G (.int (k:Nat))))=true;rw[hT.1,hT.2.1]
   rfl) (aX (l:=.trust) hT.2.2 rfl)))))))))
end
theorem next_ne{N k r:Int}(k0:0<=k)(k1:k<N)(r0:0<=r)(r1:r<N-1):(0<=(k+1+r) % N/\(k+1+r) % N<N)/\(k+1+r) % N≠k:=by
 by_cases z:k+1+r<N
 ·rw[Int.emod_eq_of_lt (by omega) z];omega
 ·have e:(k+1+r) % N=k+1+r-N:=by
   rw[show k+1+r=(k+1+r-N)+N*1 by omega,Int.add_mul_emod_self_left,Int.emod_eq_of_lt (by omega) (by omega)];omega
  rw[e];omega
theorem Dm(w:Int){k j:Nat}(hk:k<13)(hj:j<13)(h:k≠j):cC w k≠cC w j:=fun e=>by
 rcases Nat.lt_or_gt_of_ne h with z|z
 ·have:=EA ((eJ w hk).2 j hj z);rw[e]at this;exact List.lt_irrefl _ this
 ·have:=EA ((eJ w hj).2 k hk z);rw[e]at this;exact List.lt_irrefl _ this
theorem Dw{H:Hp}{ks:Str}(h:ks∈(["debt","way","buy","note"]:List Str)):TD H (.str ks) (.str ks):=by
 have:∀i∈(["debt","way","buy","note"]:List Str),(i.cps.all (·<128)=true/\i.length<=100)/\PyData.canLay0 (.str i)=true:=by decide+kernel
 exact .str ks (this ks h).1 (this ks h).2
theorem DJ{H:Hp}{ks:Str}(h:ks∈(["x","y"]:List Str)):TD H (.str ks) (.str ks):=by
 have:∀i∈(["x","y"]:List Str),(i.cps.all (·<128)=true/\i.length<=100)/\PyData.canLay0 (.str i)=true:=by decide+kernel
 exact .str ks (this ks h).1 (this ks h).2
theorem zM(n j:Nat)(hn:1<=n):(1+2^n).testBit j=true<->j=0\/j=n:=by
 have e:1+2^n=1||| 2^n:=by
  have:(1:Nat)<2^n:=by have:=EN (show 0<2 by decide) hn;omega
  have a:=Nat.two_pow_add_eq_or_of_lt (i:=n) (b:=1) this 1;rw[Nat.mul_one]at a;rw[Nat.add_comm,a,Nat.or_comm]
 rw[e,FK,F5,Nat.testBit_two_pow,decide_eq_true_iff,show(1:Nat)=2^0 from rfl,Nat.testBit_two_pow,decide_eq_true_iff];omega
theorem two_ends{w h:Nat}(hw:0<w)(hw8:w<=8)(hh8:h<=8)(h2:2<w*h):jh w h (.int ((1+2^(w*h-1):Nat):Int))=false:=by
 have hwh:w*h<=64:=Fw hw8 hh8;have hb:=zM (w*h-1);obtain⟨c,ec⟩:∃c,c=1+2^(w*h-1):=⟨_,rfl⟩;rw[<-ec]at hb ⊢;have hb:=fun j=>hb j (by omega);have c0:c≠0:=by rw[ec];exact Nat.ne_of_gt (EB Nat.one_pos (Nat.le_add_right 1 _))
 have cl:c<2^64:=by have a:(2:Nat)^(w*h-1)<=2^63:=EN (by decide) (by omega);rw[ec];exact Nat.lt_of_le_of_lt (Nat.add_le_add_left a 1) (by decide)
 have no:¬∃ps,gv w h ((c:Nat):Int).toNat ps/\ps.length=1:=by
  rw[ET];rintro⟨ps,is,l1⟩;cases is with
  |nil=>cases l1
  |cons r0 ic rest=>
   rename_i p ps;have ep:ps=[]:=by
    cases ps with
    |nil=>rfl
    |cons _ _=>simp at l1
   subst ep;have ez:dif c p=0:=by generalize dif c p=z at rest;cases rest;rfl
   have low:ib c=0:=by
    have ls:=ia cl c0;rcases Nat.eq_zero_or_pos (ib c)with e|e
    ·exact e
    ·have:=ls.2.1 0 e;rw[(hb 0).mpr (.inl rfl)]at this;cases this
   have pb:p.testBit (w*h-1)=true:=by
    have:=jw c p (w*h-1);rw[ez,Nat.zero_testBit,(hb _).mpr (.inr rfl)]at this;cases e:p.testBit (w*h-1)with
    |true=>rfl
    |false=>rw[e]at this;cases this
   have r:=(ic _).mp pb;rw[low]at r;have all:∀j,Rch w h c 0 j->j=0:=fun j r=>by
    induction r with
    |here _=>rfl
    |step r n e ih=>
     subst ih;rename_i i;rcases (hb i).mp e with z|z
     ·exact z
     ·exfalso;have:i=1/\1<w\/i=w:=by
       simp[bX,Nat.zero_mod,Nat.zero_div]at n;omega
      rcases this with⟨a,b⟩|a
      ·omega
      ·have:w*h=w+1:=(by omega);have hd:w∣1:=(Nat.dvd_add_right (Nat.dvd_refl w)).mp (by rw[<-this];exact Nat.dvd_mul_right w h);have:=Nat.le_of_dvd (by decide) hd;omega
   have:=all _ r;omega
 show(_&& @decide _ (Classical.propDecidable _))=false;rw[@EI _ (Classical.propDecidable _) no,Fi]
theorem zi{w h:Nat}{d:PyData}(e:wi 1 ((2^(w*h)-1:Nat):Int) d=false):jh w h d=false:=by
 cases d with
 |int i=>have:(decide (1<=i)&&decide (i<=((2^(w*h)-1:Nat):Int)))=false:=e;show((decide (1<=i)&&decide (i<=((2^(w*h)-1:Nat):Int)))&& @decide _ (Classical.propDecidable _))=false;rw[this,EO]
 |_=>rfl
section
variable{X:Cx}
noncomputable def Dg:R2:=fun x y H Q=>∃a b xs ys,x=.ref a/\y=.ref b/\H a=some (.tup xs)/\H b=some (.tup ys)/\xs.length+ys.length<=sizeLine/\∀r H',aq H H'->H' r=some (.tup (xs++ys))->Q (.ref r) H'
theorem fH:OpR X (binaryOp .Add) Dg:=by
 intro pins s σ H x y v u Q I rx ry h;obtain⟨a,b,xs,ys,rfl,rfl,ha',hb',hz,q⟩:=h;have ha:SqT X.K H a xs:=SqT.of ha';have hb:SqT X.K H b ys:=SqT.of hb';by_cases hx:xs=[]
 ·cases rx;cases ry;obtain⟨its,r1,p1,_⟩:=I.tuple ha;obtain⟨its2,r2,p2,_⟩:=I.tuple hb;have e1:its=[]:=r1.nil_iff.mpr hx;obtain⟨⟨c1,d1,t1,l1⟩,o1,k1,n1,z1⟩:=id p1;obtain⟨⟨c2,d2,t2,l2⟩,o2,k2,n2,z2⟩:=id p2;simp only at k1 z1 k2 z2;subst k1 z1 k2 z2;exact concat_meets ⟨_,o1,rfl⟩ ⟨_,o2,rfl⟩ noFill_tuple_add seq_tuple_add PySem.F.slot_tuple_add PySem.F.entry_tuple_add (PySem.F.args_tuple_add_2 _ _) (tuple_addW0 a b its.toArray its2.toArray n1 n2 d1 d2 l1 l2 (by simp[e1]))
   ⟨o1,o2,.ref b,H,I,rfl,q b H (fun _ _ e=>e) (by rw[hx];exact hb')⟩
 ·exact dP pins s σ H _ _ v u Q I rx ry ⟨a,b,xs,ys,rfl,rfl,ha,hb,hx,hz,fun z=>q a H (fun _ _ e=>e) (by rw[z,E2];exact ha'),fun _ p hp=>q p _ (aq.upd hp) ag⟩
def D6:V->Option Int->Option Int->Hp->VK->Prop:=fun x lo hi H Q=>∃a xs,x=.ref a/\H a=some (.tup xs)/\∀r H',aq H H'->H' r=some (.tup (jq xs lo hi))->Q (.ref r) H'
theorem kI:SlR X D6:=by
 intro pins s σ H x v vl vu lo hi sl Q I rx hs pl pu h;obtain⟨a,xs,rfl,hx',q⟩:=h;have hx:SqT X.K H a xs:=SqT.of hx';by_cases hw:HT.sIx xs.length 0 lo=0/\HT.sIx xs.length xs.length hi=xs.length
 ·cases rx;obtain⟨its,r,ht,hz⟩:=I.tuple hx;have hlen:its.toArray.size=xs.length:=by rw[EJ];exact r.length.symm
  have e:jq xs lo hi=xs:=by unfold jq;rw[hw.1,hw.2];simp
  exact⟨"tuple",_,Fs.lookup,ht.typeIs,oY ht hs pl pu (by rw[hlen];exact hw) ⟨.ref a,H,I,rfl,q a H (fun _ _ e=>e) (by rw[e];exact hx')⟩⟩
 ·exact yH pins s σ H _ v vl vu lo hi sl Q I rx hs pl pu ⟨a,xs,rfl,hx,hw,fun p hp=>q p _ (aq.upd hp) ag⟩
end
theorem lj:∀xs ys:List PyData,PyData.depthAll (xs++ys)=max (PyData.depthAll xs) (PyData.depthAll ys)
 | [],ys=>by show PyData.depthAll ys=max 0 _;omega
 |x::xs,ys=>by show max x.depth (PyData.depthAll (xs++ys))=max (max x.depth (PyData.depthAll xs)) _;rw[lj xs ys];omega
def tT{A:Type}(g:A->St->Hp->Prop)(d:A->PyData):TE:=fun σ H Q=>∃a,g a σ H/\∀v H',aq H H'->TD H' (d a) v->Q v H'
def tTs{A:Type}(g:A->St->Hp->Prop)(ds:A->List PyData):TA:=fun σ H Q=>∃a,g a σ H/\∀vs H',aq H H'->TDs H' (ds a) vs->Q vs H'
def Mn{A:Type}(g:A->St->Hp->Prop):Prop:=∀a σ H H',aq H H'->g a σ H->g a σ H'
noncomputable def cutD(xs:List PyData)(lo hi:Option Int):List PyData:=(xs.drop (HT.sIx xs.length 0 lo)).take (HT.sIx xs.length xs.length hi-HT.sIx xs.length 0 lo)
theorem TDs.cut{H:Hp}{ds:List PyData}{vs:List V}(z:TDs H ds vs)(lo hi:Option Int):TDs H (cutD ds lo hi) (jq vs lo hi):=by unfold cutD jq;rw[z.len];exact(z.drop _).take _
section
variable{X:Cx}{e e1 e2:Expr}{es:List Expr}{t:TE}{tl tu:TO}{A:Type}{g:A->St->Hp->Prop}{d:A->PyData}{ds xs ys:A->List PyData}{pos:Pos}
theorem b8{d:PyData}(h:PE X e (qz d)):PE X e (tT g fun _=>d):=gh h fun _ _ _ ⟨_,_,q⟩=>q
theorem cE{i:Nat}(h:PE X e (Ao i))(c:∀a σ H,g a σ H->∃v,σ[i]?=some (some v)/\TD H (d a) v):PE X e (tT g d):=
 gh h fun σ H _ ⟨a,ga,q⟩=>let ⟨v,e,t⟩:=c a σ H ga;⟨v,e,q v H (aq.refl _) t⟩
theorem dA:PA X [] (tTs g fun _=>[]):=wM af fun _ H _ ⟨_,_,q⟩=>q [] H (aq.refl _) .nil
theorem aL(m:Mn g)(h:PE X e (tT g d))(z:PA X es (tTs g ds))(hst:starEach (e::es) X.env=(false,eval e X.env)::starEach es X.env):PA X (e::es) (tTs g fun a=>d a::ds a):=
 wM (aa h z hst) fun _ _ _ ⟨a,ga,q⟩=>⟨a,ga,fun v _ s1 t1=>⟨a,m _ _ _ _ s1 ga,fun vs _ s2 t2=>q _ _ (s1.trans s2) (.cons (t1.same s2) t2)⟩⟩
theorem fB{x1:Nat}(z:PA X es (tTs g ds))(hl:∀a,(ds a).length<=500):PE X (.Tuple es x1 pos) (tT g fun a=>.tuple (ds a)):=
 gh (bu z) fun _ _ _ ⟨a,ga,q⟩=>⟨a,ga,fun vs _ s1 t1=>⟨FL (aM (by rw[t1.len];have:=hl a;omega)),fun _ ha=>q _ _ (s1.trans (aq.upd ha)) (.tup ag (t1.same (aq.upd ha)))⟩⟩
theorem nM(z:PA X es (tTs g ds))(hl:∀a,(ds a).length<=500):PE X (.List es pos) (tT g fun a=>.list (ds a)):=
 gh (bK z) fun _ _ _ ⟨a,ga,q⟩=>⟨a,ga,fun vs _ s1 t1=>⟨FL (aM (by rw[t1.len];have:=hl a;omega)),fun _ ha=>q _ _ (s1.trans (aq.upd ha)) (.lst ag (t1.same (aq.upd ha)))⟩⟩
theorem iO(m:Mn g)(h1:PE X e1 (tT g fun a=>.tuple (xs a)))(h2:PE X e2 (tT g fun a=>.tuple (ys a)))(hl:∀a σ H,g a σ H->(xs a).length+(ys a).length<=500):PE X (.BinOp e1 .Add e2 pos) (tT g fun a=>.tuple (xs a++ys a)):=
 gh (aj fH h1 h2) fun σ H _ ⟨a,ga,q⟩=>⟨a,ga,fun v _ s1 t1=>⟨a,m _ _ _ _ s1 ga,fun u _ s2 t2=>by
  obtain⟨l1,v1,rfl,k1,z1⟩:=t1.tupE;obtain⟨l2,v2,rfl,k2,z2⟩:=t2.tupE;have:=hl a σ H ga
  exact⟨l1,l2,v1,v2,rfl,rfl,s2 _ _ k1,k2,FL (aM (by rw[z1.len,z2.len];omega)),fun r H' s' hr=>q _ _ (s1.trans (s2.trans s')) (.tup hr (((z1.same s2).app z2).same s'))⟩⟩⟩
theorem mH{lo hi:Option Expr}{p2:Pos}{i j:Option Int}(h:PE X e (tT g fun a=>.tuple (xs a)))(hl:PO X lo tl)(hu:PO X hi tu)(cl:∀σ H(Q:Option Int->Hp->Prop),Q i H->tl σ H Q)(cu:∀σ H(Q:Option Int->Hp->Prop),Q j H->tu σ H Q):
  PE X (.Subscript e (.Slice lo hi none p2) pos) (tT g fun a=>.tuple (cutD (xs a) i j)):=
 gh (eG kI h hl hu) fun σ H _ ⟨a,ga,q⟩=>⟨a,ga,fun v _ s1 t1=>cl _ _ _ (cu _ _ _ (by
  obtain⟨l1,v1,rfl,k1,z1⟩:=t1.tupE
  exact⟨l1,v1,rfl,k1,fun r H' s' hr=>q _ _ (s1.trans s') (.tup hr ((z1.cut i j).same s'))⟩))⟩
theorem yC{i:Int}{k:Nat}(h:PE X e1 (tT g fun a=>.tuple (xs a)))(h2:PE X e2 (tC (.int i)))(hs:xp e2)(hi:i=(k:Nat))(c:∀a σ H,g a σ H->(xs a)[k]?=some (d a)):PE X (.Subscript e1 e2 pos) (tT g d):=
 gh (aF aG h h2 hs) fun σ H _ ⟨a,ga,q⟩=>⟨a,ga,fun v _ s1 t1=>by
  obtain⟨l1,v1,rfl,k1,z1⟩:=t1.tupE;obtain⟨v,hv,tv⟩:=z1.at (c a σ H ga)
  exact⟨l1,v1,i,v,rfl,rfl,SqT.of k1,by rw[hi];exact aB hv,q v _ s1 tv⟩⟩
theorem wy(h:PE X e (tCB (fun xs H Q=>∃p ys,xs=[.ref p]/\(SqL X.K H p ys\/SqT X.K H p ys)/\∀l,H l=none->Q (.ref l) (upd H l (.lst ys))) (BC (tT g fun a=>.tuple (xs a)) CU))):PE X e (tT g fun a=>.list (xs a)):=
 gh h fun σ H _ ⟨a,ga,q⟩=>⟨a,ga,fun v _ s1 t1=>by
  obtain⟨l1,v1,rfl,k1,z1⟩:=t1.tupE
  exact⟨l1,v1,rfl,.inr (SqT.of k1),fun r hr=>q _ _ (s1.trans (aq.upd hr)) (.lst ag (z1.same (aq.upd hr)))⟩⟩
end
mutual
def noL:PyData->Bool
 | .list _=>false
 | .tuple ds=>AR ds
 |_=>true
def AR:List PyData->Bool
 | []=>true
 |d::ds=>noL d&&AR ds
end
section
variable{H:Hp}{l:Addr}{us ws:List V}
mutual
theorem TD.keepL(hl:H l=some (.lst us)):∀{d:PyData}{v:V},TD H d v->noL d=true->TD (upd H l (.lst ws)) d v
 |_,_,.non,_=>.non
 |_,_,.bl b,_=>.bl b
 |_,_,.int i,_=>.int i
 |_,_,.str x h z,_=>.str x h z
 |_,_,.tup h z,n=>.tup (by rw[aN (fun e=>by rw[e,hl]at h;cases h)];exact h) (TDs.keepL hl z n)
theorem TDs.keepL(hl:H l=some (.lst us)):∀{ds:List PyData}{vs:List V},TDs H ds vs->AR ds=true->TDs (upd H l (.lst ws)) ds vs
 |_,_,.nil,_=>.nil
 |_,_,.cons a z,n=>by have n':=EL _ _▸n;exact .cons (TD.keepL hl a n'.1) (TDs.keepL hl z n'.2)
end
end
theorem wC:∀{x:Str}{l:List Str},rise (x::l)=true->∀y∈l,x.cps.toList<y.cps.toList
 |_,[],_,_,h=>nomatch h
 |x,y::l,r,z,h=>by
  have r':(decide (x.cps.toList<y.cps.toList)&&rise (y::l))=true:=r;rw[EL,Ez]at r';rcases Fd.mp h with e|e
  ·rw[e];exact r'.1
  ·exact List.lt_trans r'.1 (wC r'.2 z e)
theorem xB{ds:List PyData}(h:jB (.tuple ds)=true):jB (.tuple (ds++cutD ds none (some 1)))=false:=by
 have h':(decide (1<=ds.length)&&decide (ds.length<=12)&&(ds.all fv&&(rise (ds.map hnm)&&decide (sumF (ds.map hpt)=(1,1)))))=true:=h;cases ds with
 |nil=>simp at h'
 |cons x r=>
  have e:cutD (x::r) none (some 1)=[x]:=by unfold cutD;show(List.drop 0 (x::r)).take (min 1 (r.length+1)-0)=[x];rw[Nat.min_eq_left (by omega)];rfl
  rw[e];have nr:rise ((x::r++[x]).map hnm)=false:=by
   cases z:rise ((x::r++[x]).map hnm)with
   |false=>rfl
   |true=>have:=wC (x:=hnm x) (l:=(r++[x]).map hnm) z (hnm x) (by simp);exact absurd this (List.lt_irrefl _)
  show(_&&_&&(_&&(rise ((x::r++[x]).map hnm)&&_)))=false;rw[nr,EO,Fi,Fi]
def lX(w h:Nat)(ds:List PyData)(p:Nat)(l:Lk)(d:PyData):Prop:=∀ds',(∀j,j<p->thg ds' j=thg ds j)->thg ds' p=d->lkB w h ds' p l=false
noncomputable def zx:Lk->Nat
 | .grd=>4| .til=>5| .over=>5| .note=>5|_=>0
theorem zA{x:Str}{ls:List Lk}(e:bE x=some ls){j:Nat}{l:Lk}(hl:ls[j]?=some l):zx l<=1+j:=by
 have key:∀ls∈[[Lk.num,.date,.sgn,.pc,.shr],[.num,.date,.sgn,.cell,.axis,.line],[.num,.date,.sgn,.cell,.ocell],[.num,.date,.sgn,.cell,.name,.oname,.part,.grd,.trust],[.num,.date,.sgn,.cell,.bkind,.name,.amt,.til,.over,.note,.grd,.trust],[.num,.date,.sgn,.cell,.num],[.num,.date,.sgn,.cell,.num,.onum]],∀p∈ls.zipIdx,zx p.1<=1+p.2:=by decide
 have m:ls∈[[Lk.num,.date,.sgn,.pc,.shr],[.num,.date,.sgn,.cell,.axis,.line],[.num,.date,.sgn,.cell,.ocell],[.num,.date,.sgn,.cell,.name,.oname,.part,.grd,.trust],[.num,.date,.sgn,.cell,.bkind,.name,.amt,.til,.over,.note,.grd,.trust],[.num,.date,.sgn,.cell,.num],[.num,.date,.sgn,.cell,.num,.onum]]:=by
  unfold bE at e
  repeat' split at e
  all_goals first|(cases e;simp)|cases e
 exact key ls m (l,j) (List.mk_mem_zipIdx_iff_getElem?.mpr hl)
theorem AV{w h p:Nat}{ds ds':List PyData}{l:Lk}(lo:zx l<=p)(e:∀i,i<=p->thg ds' i=thg ds i)(g:lkB w h ds p l=true):lkB w h ds' p l=true:=by
 have e0:=e p (EG _);have e1:=e (p-1) (Nat.sub_le ..);cases l with
 |grd=>have e4:=e 4 lo;unfold lkB at g ⊢;rw[e0,e4];exact g
 |til=>have e4:=e 5 lo;unfold lkB at g ⊢;rw[e0,e4];exact g
 |over=>have e4:=e 5 lo;unfold lkB at g ⊢;rw[e0,e4];exact g
 |note=>have e4:=e 5 lo;unfold lkB at g ⊢;rw[e0,e4];exact g
 |onum=>unfold lkB at g ⊢;rw[e0,e1];exact g
 |ocell=>unfold lkB at g ⊢;rw[e0,e1];exact g
 |oname=>unfold lkB at g ⊢;rw[e0,e1];exact g
 |_=>unfold lkB at g ⊢;rw[e0];exact g
theorem yr{w h p:Nat}{ds ds':List PyData}{d:PyData}{x:Str}{ls:List Lk}(hx:bE x=some ls)(k0:∃r,ds=.str x::r)(gd:dX w h (.tuple ds)=none){l:Lk}(p1:1<=p)(hp:ls[p-1]?=some l)(b:lX w h ds p l d)
  (e1:∀j,j<p->ds'[j]?=ds[j]?) (e2:ds'[p]?=some d) (e3:ds'.length=ds.length):dX w h (.tuple ds')=some p:=by
 obtain⟨r,rfl⟩:=k0;have kk:r.length=ls.length:=by
  unfold dX at gd;have:fu (.tuple (.str x::r))=if r.length=ls.length then some ls else none:=by show(match bE x with|some ls=>if r.length=ls.length then some ls else none|none=>none)=_;rw[hx]
  rw[this]at gd;by_cases z:r.length=ls.length
  ·exact z
  ·rw[Fb z]at gd;cases gd
 have gl:gs w h (.str x::r) 1 ls=none:=by
  have:fu (.tuple (.str x::r))=some ls:=by show(match bE x with|some ls=>if r.length=ls.length then some ls else none|none=>none)=_;rw[hx];show(if r.length=ls.length then some ls else none)=_;rw[Fl kk]
  unfold dX at gd;rw[this]at gd;exact gd
 obtain⟨y,r',rfl⟩:∃y r',ds'=y::r':=by
  cases ds' with
  |nil=>simp at e2
  |cons y r'=>exact⟨y,r',rfl⟩
 have ey:y=.str x:=by have:=e1 0 (by omega);simpa using this
 subst ey;have kr:r'.length=ls.length:=by rw[ES,ES]at e3;omega
 have k2:fu (.tuple (.str x::r'))=some ls:=by show(match bE x with|some ls=>if r'.length=ls.length then some ls else none|none=>none)=_;rw[hx];show(if r'.length=ls.length then some ls else none)=_;rw[Fl kr]
 have tj:∀j,j<p->thg (.str x::r') j=thg (.str x::r) j:=fun j hj=>by unfold thg;rw[e1 j hj]
 have tp:thg (.str x::r') p=d:=by unfold thg;rw[e2];rfl
 have bd:=b _ tj tp;have hpl:p-1<ls.length:=(ED.mp hp).1;have split:ls=ls.take (p-1)++l::ls.drop p:=by
  have a1:=List.take_append_drop (p-1) ls;have a2:ls.drop (p-1)=l::ls.drop p:=by rw[List.drop_eq_getElem_cons hpl,show p-1+1=p by omega];rw[ER hpl]at hp;cases hp;rfl
  rw[a2]at a1;exact a1.symm
 have look:∀j l',j<p-1->ls[j]?=some l'->lkB w h (.str x::r') (1+j) l'=true:=fun j l' hj hl=>by have good:=lR gl j l' hl;exact AV (zA hx hl) (fun i hi=>tj i (by omega)) good
 have t1:∀(as:List Lk)(i:Nat),(∀j l',as[j]?=some l'->lkB w h (.str x::r') (i+j) l'=true)->gs w h (.str x::r') i as=none:=by
  intro as
  induction as with
  |nil=>intro i _;rfl
  |cons a as ih=>intro i ha;refine aX (by simpa using ha 0 a rfl) (ih (i+1) fun j l' e=>?_);have:=ha (j+1) l' (by rw[FJ];exact e);rwa[show i+(j+1)=i+1+j by omega]at this
 have t2:=t1 (ls.take (p-1)) 1 fun j l' e=>by
  rw[List.getElem?_take]at e;split at e
  ·exact look j l' (by assumption) e
  ·cases e
 unfold dX;rw[k2];show gs w h (.str x::r') 1 ls=some p;rw[split,lS,t2,E9,Nat.min_eq_left (by omega),show 1+(p-1)=p by omega];show(if lkB w h (.str x::r') p l=true then _ else some p)=some p;rw[bd,Fb EE]
theorem uH(xs:List PyData)(lo hi:Option Int):(cutD xs lo hi).length<=xs.length:=by unfold cutD;rw[E9,List.length_drop];omega
def bo(ds:List PyData)(σ:St)(H:Hp):Prop:=(∃v,σ[1]?=some (some v)/\TD H (.tuple ds) v)/\(∃v,σ[2]?=some (some v)/\TD H (.tuple [.int 1,.int 2]) v)/\ds.length<=12
theorem bF:Mn bo:=fun _ _ _ _ s ⟨⟨v,e,t⟩,⟨u,e',t'⟩,l⟩=>⟨⟨v,e,t.same s⟩,⟨u,e',t'.same s⟩,l⟩
theorem zH:∀(ds:List PyData)(σ:St)(H:Hp),bo ds σ H->ds.length+(cutD ds none (some 1)).length<=500:=fun ds _ _ h=>by have:=uH ds none (some 1);have:=h.2.2;omega
theorem vR:∀(ds:List PyData)(σ:St)(H:Hp),bo ds σ H->∃v,σ[1]?=some (some v)/\TD H (PyData.tuple ds) v:=fun _ _ _ h=>h.1
theorem mB:∀(ds:List PyData)(σ:St)(H:Hp),bo ds σ H->∃v,σ[2]?=some (some v)/\TD H (PyData.tuple [.int 1,.int 2]) v:=fun _ _ _ h=>h.2.1
theorem iu{n:Nat}:∀{xs:List PyData},PyData.depthAll xs<=n<->∀d∈xs,d.depth<=n
 | []=>⟨fun _ _ h=>(nomatch h),fun _=>EH _⟩
 |x::xs=>by show max x.depth (PyData.depthAll xs)<=n<->_;rw[Nat.max_le,iu (xs:=xs),List.forall_mem_cons]
theorem rE{xs:List PyData}{lo hi:Option Int}{d:PyData}(h:d∈cutD xs lo hi):d∈xs:=List.mem_of_mem_drop (List.mem_of_mem_take h)
theorem rX{n:Nat}{xs:List PyData}(lo hi:Option Int)(h:PyData.depthAll xs<=n):PyData.depthAll (cutD xs lo hi)<=n:=iu.mpr fun d hd=>iu.mp h d (rE hd)
noncomputable def gf(xs:List Str):List PyData:=xs.map fun x=>.tuple [.str x,.tuple [.int 1,.int 13]]
theorem oO:∀xs:List Str,AR (gf xs)=true
 | []=>rfl
 |x::xs=>oO xs
theorem zQ:∀xs:List Str,PyData.depthAll (gf xs)<=2
 | []=>EH _
 |x::xs=>by show max _ (PyData.depthAll (gf xs))<=2;exact Nat.max_le.mpr ⟨Et rfl,zQ xs⟩
theorem BQ(w:Int)(f:Nat):jB (.tuple (gf (bA w f 13)))=false:=by
 have l:(gf (bA w f 13)).length=13:=by unfold gf;rw[Ew,fJ]
 generalize gf (bA w f 13)=z at l ⊢;show(decide (1<=z.length)&&decide (z.length<=12)&&(z.all fv&&(rise (z.map hnm)&&decide (sumF (z.map hpt)=(1,1)))))=false;rw[l];rfl
noncomputable def Ae(lo:Int)(n:Nat):It:=⟨fun i _=>i<n,fun i H x H'=>H'=H/\x=.int (lo-i),fun i _=>n<=i⟩
theorem sU{P:Program}{w:World}{K:Frag}{tg:Expr}(it:Addr)(lo:Int)(n:Nat):Turn P w K tg (Ae lo n) [it] it (fun i h=>IsRangeIter h it (lo+(i:Nat)*(-1)) ((n:Int)-(i:Nat)) (-1)) where
 mem:=by simp
 obj:=fun i h st b hb=>by
  have e:b=it:=by simpa using hb
  subst e;refine⟨_,st,fun v z=>?_⟩;cases (show Data.fields _=Data.cell v from z)
 keep:=fun i h h' st k=>k it (by simp) _ st
 item:=by intro X hP hw hK hc i pins s σ H E I hf st hg;subst hP hw hK;have f:=hf it (by simp);refine(Walks.range (prog:=X.prog) (w:=X.w) (I.ok.hd hc) it lo (-1) n).item i s _ _ hg st fun v h' tk hv st' kk=>?_;obtain⟨t,rfl⟩:=hv;have I1:Inv X pins σ H {s with heap:=h',toks:=tk}:=I.turned (fun b o hb e=>kk b o (by simpa using hb) e) f.1 f.2.1 f.2.2.2.1 f.2.2.2.2.1 f.2.2.2.2.2;refine⟨_,rfl,uD (s:={s with heap:=h',toks:=tk}) (n:="range_iterator") st' rfl rfl (by decide) ⟨.int (lo-i),H,I1,⟨t,?_⟩,⟨rfl,rfl⟩,st',fun b hb=>(hf b hb).1⟩⟩;rw[show lo+(i:Int)*(-1)=lo-i by omega]
 done:=by intro X hP hw hK hc i pins s σ H E I hf st hg;subst hP hw hK;have f:=hf it (by simp);exact wpAny_pyNext_range_end (I.ok.hd hc) st (by have:n<=i:=hg;omega) fun h' eb=>⟨rfl,I.turned (t':=s.toks) (fun b o hb e=>eb b o hb e) f.1 f.2.1 f.2.2.2.1 f.2.2.2.2.1 f.2.2.2.2.2⟩
 self:=fun _ _ _ _ _ st h=>wpAny_pyIter_rangeiter st h
theorem pW(a b:Int):Builtin.Range.rangeSize a b (-1)=((a-b).toNat:Int):=by unfold Builtin.Range.rangeSize;rw[Fb (by decide),show-(-1:Int)=1 from rfl,Int.ediv_one];split<;>omega
theorem small_down{a b:Int}(h1:0<=a)(h2:a<1000)(h3:0<=b)(h4:b<1000):Builtin.Range.small a b (-1)=true:=by unfold Builtin.Range.small;rw[pW];simp only[Builtin.Range.rangeFitsLong,EL,F5,Ez,beq_iff_eq,Fb (show ¬(-1:Int)>0 by decide)];omega
section
variable{X:Cx}{tg:Expr}
def Dz(ta:TA):TI:=fun σ H R=>ta σ H fun vs H1=>∃i j:Int,vs=[.int i,.int j,.int (-1)]/\(0<=i/\i<1000/\0<=j/\j<1000)/\R (Ae i (i-j).toNat) H1
theorem xP{a b c:Expr}{ta:TA}{p pos:Pos}(hg:Gl X "range")(hm:X.mg "range"=none)(ha:PA X [a,b,c] ta)(he:starEach [a,b,c] X.env=(false,eval a X.env)::starEach [b,c] X.env:=by rfl)(hpl:(backTo pos (starEach [b,c] X.env)).any (·.1)=false:=by rfl):
  PI X tg (.Call (.Name "range" p) [a,b,c] [] pos) (Dz ta):=by
 intro pins s σ H R I h;refine Call_ (j8 I hg hm boot_range (Ge (thn (ha pos pins s σ H _ I h) fun us s1 hPz=>?_) he hpl));obtain⟨vs,H1,I1,r1,q1⟩:=hPz;obtain⟨i,j,e,⟨q1,q2,q3,q4⟩,q⟩:=q1;subst e;cases r1 with
 |cons r rr=>
  cases rr with
  |cons r' rr=>
   cases rr with
   |cons r'' rr=>
    cases rr;obtain⟨t,rfl⟩:=r;obtain⟨u,rfl⟩:=r';obtain⟨v,rfl⟩:=r'';refine call_range_3 (by decide) ?_ (Or.inl (PyProof.noPylong_small (by omega)));refine wpAny_pyIter_range (IsRange.new ..) (small_down q1 q2 q3 q4) ?_;obtain⟨ob,eo⟩:∃ob:Obj,ob={cls:=.type "range",data:=.fields #[.int i t,.int j u,.int (-1) v]}:=⟨_,rfl⟩;rw[<-eo];have I2:Inv X pins σ H1 {s1 with heap:=s1.heap.push ob,toks:=s1.toks}:=I1.kept fun b o e=>Ex _ e;refine⟨(s1.heap.push ob).objs.size,[(s1.heap.push ob).objs.size],_,_,H1,rfl,I2.kept (t':=s1.toks) fun b o e=>Ex _ e,sU _ i (i-j).toNat,?_,fun b hb=>?_,q⟩
    ·show IsRangeIter _ _ (i+((0:Nat):Int)*(-1)) ((((i-j).toNat:Nat):Int)-((0:Nat):Int)) (-1);rw[show i+((0:Nat):Int)*(-1)=i by omega,show(((i-j).toNat:Nat):Int)-((0:Nat):Int)=Builtin.Range.rangeSize i j (-1) by rw[pW];omega];exact Fh _ rfl
    ·have e:b=(s1.heap.push ob).objs.size:=(by simpa using hb);subst e;exact I2.fpOk (EG _) (I2.hok.fresh (EG _))
theorem zJ{lo:Int}{n:Nat}{g:TG}{tb:TS}{D:Ends}{σ:St}{H:Hp}(Pv:Nat->St->Hp->Prop)(h0:Pv 0 σ H)
  (hs:∀i σ H,i<n->Pv i σ H->g (.int (lo-i)) σ H fun σ2 H2=>tb {D with nx:=Pv (i+1),ct:=Pv (i+1),bk:=D.nx} σ2 H2) (hd:∀σ H,Pv n σ H->D.nx σ H):
  ∃W:Nat->Nat->St->Hp->Prop,(∃m,W 0 m σ H)/\∀i m σ H,W i m σ H->
   ((Ae lo n).stop i H/\D.nx σ H)\/((Ae lo n).go i H/\∃N:St->Hp->Prop,(∀σ' H',N σ' H'->∃m',m'<m/\W (i+1) m' σ' H')/\∀x H',(Ae lo n).yld i H x H'->g x σ H' fun σ2 H2=>tb {D with nx:=N,ct:=N,bk:=D.nx} σ2 H2):=by
 refine⟨fun i m σ H=>m=n-i/\i<=n/\Pv i σ H,⟨n,by simp,EH _,h0⟩,?_⟩;rintro i m σ H ⟨rfl,hi,p⟩;by_cases hlt:i<n
 ·refine .inr ⟨hlt,Pv (i+1),fun σ' H' p'=>⟨n-(i+1),by omega,rfl,hlt,p'⟩,fun x H' y=>?_⟩;cases y.1;cases y.2;exact hs i σ _ hlt p
 ·have e:i=n:=by omega
  exact .inl ⟨by rw[e];exact EG _,hd σ H (e▸p)⟩
end
theorem CN{d:PyData}(h:wi 0 1000000000 d=false)(n:d≠ .none):trD d=false:=by
 cases d with
 |none=>exact absurd rfl n
 |_=>exact h
theorem A8{n k:Nat}(hk:k<n)(hn:1<n):(isZ (.int ((2^n-1-2^k:Nat):Int))||o8 (.int ((2^n-1-2^k:Nat):Int)) (.int (k:Nat)))=false:=by
 have a:(2:Nat)^k<=2^(n-1):=EN (by decide) (by omega);have b:(2:Nat)^n=2*2^(n-1):=by rw[<-Nat.pow_succ',show(n-1).succ=n by omega]
 have c:(2:Nat)<=2^(n-1):=by have:=EN (show 0<2 by decide) (show 1<=n-1 by omega);omega
 have t:(2^n-1-2^k).testBit k=false:=by rw[show 2^n-1-2^k=2^n-(2^k+1) by omega,Nat.testBit_two_pow_sub_succ (by omega),Nat.testBit_two_pow_self];simp
 show(decide (((2^n-1-2^k:Nat):Int)=0)||(decide (0<=((k:Nat):Int))&&(2^n-1-2^k).testBit k))=false;rw[t,EI (by omega),Fi];rfl
theorem yB{d:PyData}{b:Bool}(h:wi 0 (1000000000*(if b=true then 1 else 0)) d=false):(wi 0 1000000000 d&&(isZ d||b))=false:=by
 cases b with
 |true=>rw[show(1000000000*(if true=true then 1 else 0):Int)=1000000000 from rfl]at h;rw[h,EO]
 |false=>
  rw[show(1000000000*(if false=true then 1 else 0):Int)=0 from rfl]at h;cases d with
  |int i=>
   by_cases z:i=0
   ·subst z;cases h
   ·show(_&&(decide (i=0)||false))=false;rw[EI z,Bool.false_or,Fi]
  |_=>rfl
theorem wO{i:Int}(h:1<=i):(wi 0 1000000000 (.int i)&&(isZ (.int i)||false))=false:=by show(_&&(decide (i=0)||false))=false;rw[EI (show ¬i=0 by omega),Bool.false_or,Fi]
theorem Aw{ds:List PyData}(h:jR (.tuple ds)=true):PyData.depthAll ds<=0:=by
 have h':(decide (ds.length<=12)&&(ds.all nmD&&rise (ds.map qy)))=true:=h;simp only[EL,FV]at h';refine iu.mpr fun d hd=>?_;have:=h'.2.1 d hd;cases d with
 |str x=>exact EH _
 |_=>cases this
theorem Av{d:PyData}(h:jR d=true):∃ds,d=.tuple ds:=by
 cases d with
 |tuple ds=>exact⟨ds,rfl⟩
 |_=>cases h
theorem Au{d:PyData}(h:jB d=true):∃ds,d=.tuple ds:=by
 cases d with
 |tuple ds=>exact⟨ds,rfl⟩
 |_=>cases h
theorem uo{x:Str}{ls:List Lk}(e:bE x=some ls):(x="grant"/\ls=[.num,.date,.sgn,.pc,.shr])\/(x="cut"/\ls=[.num,.date,.sgn,.cell,.axis,.line])\/(x="join"/\ls=[.num,.date,.sgn,.cell,.ocell])\/(x="give"/\ls=[.num,.date,.sgn,.cell,.name,.oname,.part,.grd,.trust])\/
  (x="lay"/\ls=[.num,.date,.sgn,.cell,.bkind,.name,.amt,.til,.over,.note,.grd,.trust])\/(x="lift"/\ls=[.num,.date,.sgn,.cell,.num])\/(x="waive"/\ls=[.num,.date,.sgn,.cell,.num,.onum]):=by
 unfold bE at e
 repeat' split at e
 all_goals first|(cases e;simp_all)|cases e
theorem Cw(a b:Str):decide (V.str a=V.str b)=decide (a=b):=by rw[Fu,Ez,Ez];exact⟨fun e=>V.str.inj e,fun e=>by rw[e]⟩
theorem jQ{ds:List PyData}{i:Nat}{d:PyData}(h:ds[i]?=some d):thg ds i=d:=by unfold thg;rw[h];rfl
section
variable{w h p:Nat}{ds:List PyData}{d:PyData}
theorem Aa{ks:Str}(h5:ds[5]?=some (.str ks))(e:(wi 0 1000000000 d&&(isZ d||decide (ks="note")))=false):lX w h ds 8 .til d:=fun ds' a b=>by show(wi 0 1000000000 (thg ds' 8)&&(isZ (thg ds' 8)||PyData.eqv (thg ds' 5) (.str "note")))=false;rw[b,a 5 (by decide),jQ h5];exact e
theorem xo{ks:Str}(h5:ds[5]?=some (.str ks))(e:(wi 0 1000000000 d&&(isZ d|| !decide (ks="note")))=false):lX w h ds 10 .note d:=fun ds' a b=>by show(wi 0 1000000000 (thg ds' 10)&&(isZ (thg ds' 10)|| !PyData.eqv (thg ds' 5) (.str "note")))=false;rw[b,a 5 (by decide),jQ h5];exact e
theorem xn{ks:Str}(h5:ds[5]?=some (.str ks))(e:if ks="way" then jh w h d=false else wi 0 0 d=false):lX w h ds 9 .over d:=fun ds' a b=>by
 show(if PyData.eqv (thg ds' 5) (.str "way")=true then jh w h (thg ds' 9)else wi 0 0 (thg ds' 9))=false;rw[b,a 5 (by decide),jQ h5];show(if decide (ks="way")=true then _ else _)=false;by_cases z:ks="way"
 ·rw[Fl (Ey z)];rw[Fl z]at e;exact e
 ·rw[Fb (by rw[EI z];exact EE)];rw[Fb z]at e;exact e
end
theorem uC{w h:Nat}{ds:List PyData}{x:Str}{ls:List Lk}(gd:dX w h (.tuple ds)=none)(h0:ds[0]?=some (.str x))(hx:bE x=some ls):ds.length=ls.length+1/\∀(j:Nat)(l:Lk),ls[j]?=some l->lkB w h ds (1+j) l=true:=by
 obtain⟨r,rfl⟩:∃r,ds=.str x::r:=by
  cases ds with
  |nil=>simp at h0
  |cons y r=>simp at h0;exact⟨r,by rw[h0]⟩
 have e:fu (.tuple (.str x::r))=if r.length=ls.length then some ls else none:=by show(match bE x with|some ls=>if r.length=ls.length then some ls else none|none=>none)=_;rw[hx]
 unfold dX at gd;rw[e]at gd;by_cases z:r.length=ls.length
 ·rw[Fl z]at gd;exact⟨by rw[ES,z],fun j l hl=>lR gd j l hl⟩
 ·rw[Fb z]at gd;cases gd
theorem fA{ds:List PyData}{i:Nat}(h:i<ds.length):ds[i]?=some (thg ds i):=by unfold thg;rw[ER h];rfl
theorem A6{xs:List Str}{d:PyData}(h:inS xs d=true):∃y,d=.str y/\y∈xs:=by
 cases d with
 |str y=>exact⟨y,rfl,EA h⟩
 |_=>cases h
theorem Cc{d:PyData}(h:nmD d=true):∃y,d=.str y:=by
 cases d with
 |str y=>exact⟨y,rfl⟩
 |_=>cases h
theorem zV{w h:Nat}{d:PyData}(e:wi 0 ((w:Int)*h-1) d=true):∃k:Nat,d=.int (k:Nat)/\k<w*h:=by
 obtain⟨i,rfl,h1,h2⟩:=qv e;have e1:((w:Int)*(h:Int))=((w*h:Nat):Int):=by simp
 refine⟨i.toNat,by rw[Int.toNat_of_nonneg h1],?_⟩;rw[e1]at h2;omega
theorem qS{x:Str}{ls:List Lk}(e:bE x=some ls):ls[0]?=some .num/\ls[1]?=some .date/\ls[2]?=some .sgn/\(x≠"grant"->ls[3]?=some .cell)/\5<=ls.length/\ls.length<=12:=by
 rcases uo e with h|h|h|h|h|h|h<;>(rw[h.2];refine⟨rfl,rfl,rfl,?_,by decide,by decide⟩)
 ·exact fun z=>absurd h.1 z
 all_goals exact fun _=>rfl
def bt(ds:List PyData)(σ:St)(H:Hp):Prop:=(∃v,σ[0]?=some (some v)/\TD H (.tuple ds) v)/\2<=ds.length/\ds.length<=13
theorem bR:Mn bt:=fun _ _ _ _ s ⟨⟨v,e,t⟩,l⟩=>⟨⟨v,e,t.same s⟩,l⟩
theorem fD:∀(ds:List PyData)(σ:St)(H:Hp),bt ds σ H->∃v,σ[0]?=some (some v)/\TD H (PyData.tuple ds) v:=fun _ _ _ h=>h.1
theorem zI:∀(ds:List PyData)(σ:St)(H:Hp),bt ds σ H->ds[0]?=some (thg ds 0):=fun _ _ _ h=>fA (EB (by decide) h.2.1)
theorem Cr:∀(ds:List PyData)(σ:St)(H:Hp),bt ds σ H->ds[1]?=some (thg ds 1):=fun _ _ _ h=>fA h.2.1
theorem Cq:∀(ds:List PyData)(σ:St)(H:Hp),bt ds σ H->ds.length+1<=500:=fun _ _ _ h=>EX (Nat.succ_le_succ h.2.2) (by decide)
theorem mD(lo hi:Option Int):∀(ds:List PyData)(σ:St)(H:Hp),bt ds σ H->1+(cutD ds lo hi).length<=500:=fun ds _ _ h=>by have:=uH ds lo hi;have:=h.2.2;omega
theorem nB{y:Str}{r:List PyData}(h:bE y=none):fu (.tuple (.str y::r))=none:=by show(match bE y with|some ls=>if r.length=ls.length then some ls else none|none=>none)=none;rw[h]
theorem kind_len{y:Str}{r:List PyData}{ls:List Lk}(h:bE y=some ls)(n:r.length≠ls.length):fu (.tuple (.str y::r))=none:=by show(match bE y with|some ls=>if r.length=ls.length then some ls else none|none=>none)=none;rw[h];show(if _ then _ else _)=none;rw[Fb n]
theorem uy{w h:Nat}{d:PyData}(e:fu d=none):dX w h d=some 0:=by unfold dX;rw[e];cases d<;>rfl
theorem AW:bE "gift"=none/\bE ""=none/\bE "strike"=none/\bE "paper"=none:=by decide+kernel
theorem zS{y:PyData}{r:List PyData}(h:r≠[]):∃r',cutD (y::r) none (some (-1))=y::r'/\r'.length+1=r.length:=by
 cases r with
 |nil=>exact absurd rfl h
 |cons z r=>
  have e:HT.sIx (y::z::r).length (y::z::r).length (some (-1))=r.length+1:=by simp[HT.sIx];omega
  refine⟨(z::r).take r.length,?_,?_⟩
  ·unfold cutD;rw[e];rfl
  ·rw[E9,ES,Nat.min_eq_left (by omega)]
theorem CD{xs:List V}{v:V}(h:xs[xs.length-1]?=some v):atI xs (-1)=some v:=by
 rcases List.eq_nil_or_concat xs with e|⟨ys,y,e⟩
 ·subst e;simp at h
 ·subst e;rw[List.concat_eq_append]at h ⊢;rw[EC,Fq,Nat.add_sub_cancel,FU (EG _),Nat.sub_self]at h;cases (show some y=some v from h);exact Ab ys _
noncomputable def putD(ds:List PyData)(p:Nat)(d:PyData):List PyData:=cutD ds none (some ((p:Nat):Int))++[d]++cutD ds (some (((p:Nat):Int)+1)) none
theorem Cz{ds:List PyData}{p:Nat}(h:p<ds.length):cutD ds none (some ((p:Nat):Int))=ds.take p:=by
 have e:HT.sIx ds.length ds.length (some ((p:Nat):Int))=p:=by simp only[HT.sIx];rw[Fb (by omega)];omega
 unfold cutD;rw[e];rfl
theorem zT{ds:List PyData}{p:Nat}(h:p<ds.length):cutD ds (some (((p:Nat):Int)+1)) none=ds.drop (p+1):=by
 have e:HT.sIx ds.length 0 (some (((p:Nat):Int)+1))=p+1:=by simp only[HT.sIx];rw[Fb (by omega)];omega
 unfold cutD;rw[e];show(ds.drop (p+1)).take (ds.length-(p+1))=_;rw[List.take_of_length_le (by rw[List.length_drop];exact EG _)]
theorem vv{ds:List PyData}{p:Nat}{d:PyData}(h:p<ds.length):putD ds p d=ds.take p++d::ds.drop (p+1):=by unfold putD;rw[Cz h,zT h,FQ];rfl
theorem wD{ds:List PyData}{p:Nat}{d:PyData}(h:p<ds.length):(putD ds p d).length=ds.length:=by rw[vv h,EC,E9,ES,List.length_drop];omega
theorem yS{ds:List PyData}{p:Nat}{d:PyData}(h:p<ds.length){j:Nat}(hj:j<p):(putD ds p d)[j]?=ds[j]? :=by rw[vv h,List.getElem?_append_left (by rw[E9];omega),List.getElem?_take,Fl hj]
theorem BZ{ds:List PyData}{p:Nat}{d:PyData}(h:p<ds.length):(putD ds p d)[p]?=some d:=by rw[vv h,FU (by rw[E9];omega),E9,show p-min p ds.length=0 by omega];rfl
theorem wF{ds:List PyData}{p n:Nat}{d:PyData}(h:PyData.depthAll ds<=n)(hd:d.depth<=n):PyData.depthAll (putD ds p d)<=n:=by
 refine iu.mpr fun e he=>?_;unfold putD at he;rcases Ft.mp he with z|z
 ·rcases Ft.mp z with z|z
  ·exact iu.mp h e (rE z)
  ·rw[Fy.mp z];exact hd
 ·exact iu.mp h e (rE z)
theorem yj{w h:Nat}{ds:List PyData}(gd:dX w h (.tuple ds)=none):∃x ls,ds[0]?=some (.str x)/\bE x=some ls:=by
 cases e:fu (.tuple ds)with
 |none=>rw[uy e]at gd;cases gd
 |some ls=>obtain⟨x,r,e1,e2,_⟩:=ux e;cases e1;exact⟨x,ls,rfl,e2⟩
theorem wG{w h p:Nat}{ds dl:List PyData}{d:PyData}{x:Str}{ls:List Lk}{l:Lk}(hx:bE x=some ls)(h0:ds[0]?=some (.str x))(gd:dX w h (.tuple ds)=none)(p1:1<=p)(hl:ls[p-1]?=some l)(b:lX w h ds p l d)
  (hp:p<dl.length) (ll:dl.length=ds.length) (e:∀j,j<p->dl[j]?=ds[j]?):dX w h (.tuple (putD dl p d))=some p:=by
 refine yr hx ?_ gd p1 hl b (fun j hj=>?_) (BZ hp) ?_
 ·cases ds with
  |nil=>simp at h0
  |cons y r=>simp at h0;exact⟨r,by rw[h0]⟩
 ·rw[yS hp hj,e j hj]
 ·rw[wD hp,ll]
end L2
namespace My
open PySem L2 LM PyProof.Rows
noncomputable abbrev Pg:Program:=PySem.Challenge.rw_landroll_k42_rows_checked.prog
noncomputable def top(i:Nat):Stmt:=PySem.Challenge.pw_landroll_k42_rows_checked.main.body.getD i (.Pass ⟨0,0,0,0⟩)
section
set_option maxHeartbeats 4000000
local macro_rules
 | `(tactic|trivial)=> `(tactic|first|exact Or.inl rfl|exact Or.inr rfl|decide+kernel|exact⟨rfl,rfl,rfl,by decide+kernel,rfl,by decide+kernel,by decide+kernel⟩)
variable{P:Program}{w:World}{K:Frag}{mg:Str->Option Value}{base:Heap}
noncomputable abbrev j9:Stmt:=(Bt (top 4)).getD 0 (.Pass ⟨0,0,0,0⟩)
theorem qR:ay ["self","text","place"] ["self","text","place"] (ao j9):=by trivial
theorem rB{aH cg:Addr}(T:TxX K mg "BadPaper" aH j9 ["self","text","place"] "BadPaper.__init__")(jj:Bz K mg "LandError" cg)(eP:CJ K aH "place"):DfX P w K mg base 1 "BadPaper" aH ["self","text","place"] (BN aH "place"):=by
 refine T.df qR (fun vs H Q E h=>?_) (fun f _ A _ s H vs Q E M hr h=>?_)
 ·obtain⟨x,tv,v0,rfl,hx,q⟩:=h;rfl
 ·obtain⟨x,tv,v0,rfl,hx,q⟩:=h;refine⟨_,(ah (de (y9 jj (aa (pv 0) (aa (pv 1) af)))) (ai (AE (pv 0) (pv 2)))),?_⟩;refine⟨_,rfl,_,rfl,x,aH,f,[tv],rfl,aK rfl,hx,M.ok,_,rfl,_,rfl,x,aH,rfl,eP,.inl ⟨hx,fun dx hd ne=>q dx hd ne⟩⟩
variable{cZ aH cg iC fV:Addr}
variable(B:Bn mg)
variable(uO:mg "abs"=none)
variable(eM:∃t,mg "LONGEST_NAME"=some (.int 8 t))
variable(jv:∃t,mg "LETTERS"=some (.str L2.LET t))
variable(ig:mg "all"=none)
variable(Y_LOOKS:wc P w K mg)
variable(cS:∃t,mg "MOST_NAMES"=some (.int 12 t))
variable(qx:∃p,mg "AXES"=some (.ref p)/\∀H,SqT K H p [V.str "x",V.str "y"])
variable(eE:∃p,mg "BURDEN_KINDS"=some (.ref p)/\∀H,SqT K H p [V.str "debt",V.str "way",V.str "buy",V.str "note"])
variable(cX:lW K mg "BadFraction" cZ)
variable(dF:∃t,mg "LAST_DAY"=some (.int 1000000000 t))
variable(cF:∃t,mg "LAST_NUMBER"=some (.int 1000000000 t))
variable(rR:∃t,mg "SIDE"=some (.int 8 t))
variable(Bf:∃t,mg "AT"=some (.int 4 t))
variable(dm:∃t,mg "GREATEST_AMOUNT"=some (.int 1000000000000 t))
variable(bI:∃t,mg "BURDEN_KIND"=some (.int 5 t))
variable(uN:mg "sum"=none)
variable(qw:∃p,mg "NONE"=some (.ref p)/\∀H,SqT K H p [V.int 0,V.int 1])
variable(dj:∃t,mg "GREATEST_BOTTOM"=some (.int 1000000000 t))
variable(wu:∃p,mg "ALL"=some (.ref p)/\∀H,SqT K H p [V.int 1,V.int 1])
variable(gu:DfX P w K mg base 1 "BadPaper" aH ["self","text","place"] (BN aH "place"))
variable(dz:wj mg "BadPaper" aH)
variable(fm:sj K aH)
variable(fU:mg "ValueError"=none)
variable(gx:lW K mg "LandError" cg)
variable(qp:lW K mg "Late" iC)
variable(nu:wj mg "Falls" fV)
variable(e6:sk K aH)
variable(gG:Af K mg "BadPaper" aH)
variable(dO:RdX K aH "place")
variable(k_BadPaper_LandError:kitOne K (.ref aH) (.ref cg)=some true)
variable(bB:kitOne K (.ref aH) (.type "ValueError")=some true)
variable(k_BadPaper_Falls:kitOne K (.ref aH) (.ref fV)=some false)
variable(k_BadPaper_Late:kitOne K (.ref aH) (.ref iC)=some false)
def kx(K:Frag):Sp:=fun vs H Q _=>∃(x:V)(n:String),vs=[x]/\dJ K H x (.type n)/\Q (.bl (isI x)) H
variable(cN:Df P w K mg base 1 "is_number" ["thing"] (kx K))
theorem qH:ay ["thing"] ["thing"] (ao (top 8)):=by trivial
include B in
theorem rh(T:Tx K mg "is_number" (top 8) ["thing"]):Df P w K mg base 1 "is_number" ["thing"] (kx K):=by
 refine T.df qH (by rintro _ _ _ _ ⟨x,n,rfl,ty,q⟩;rfl) ?_;rintro f _ A _ s H _ Q E hr ⟨x,n,rfl,ty,q⟩;refine⟨_,(ai (aw (cy (aP cL (by rfl) B.isinstance Fn (aa (pv 0) (aa (dh (x:="int") (v:=.ty "int") (by rfl) B.int boot_int rfl) af))) (bQ (y8 (aP cL (by rfl) B.isinstance Fn (aa (pv 0) (aa (dh (x:="bool") (v:=.ty "bool") (by rfl) B.bool boot_bool rfl) af)))))))),?_⟩;have k1:=wX K ty;have k2:=oV K ty;refine⟨_,rfl,_,_,_,_,rfl,ty,k1,_,rfl,?_⟩;refine aT (fun h1=>?_) (fun h1=>?_)
 ·refine⟨_,rfl,_,_,_,_,rfl,ty,k2,_,rfl,?_⟩;cases x<;>simp_all [isI,isB]
 ·cases x<;>simp_all [isI,isB]
def tm(K:Frag):Sp:=fun vs H Q _=>∃(a:Addr)(w h:Nat),vs=[.ref a]/\SqT K H a [.int w,.int h]/\(w<=8/\h<=8)/\Q (.int ((2^(w*h)-1:Nat))) H
variable(iy:Df P w K mg base 1 "every" ["floor"] (tm K))
theorem yJ:ay ["floor"] ["floor"] (ao (top 9)):=by trivial
include B in
theorem zo(T:Tx K mg "every" (top 9) ["floor"]):Df P w K mg base 1 "every" ["floor"] (tm K):=by
 refine T.df yJ (by rintro _ _ _ _ ⟨a,w,h,rfl,hT,⟨hw8,hh8⟩,q⟩;rfl) ?_;rintro f _ A _ s H _ Q E hr ⟨a,w,h,rfl,hT,⟨hw8,hh8⟩,q⟩;refine⟨_,(ai (aw (aj aZ (aj cK ae (aj bN (aF aG (pv 0) ae (fun _ _=>rfl)) (aF aG (pv 0) ae (fun _ _=>rfl)))) ae))),?_⟩;have hwh:w*h<=64:=Fw hw8 hh8;have e1:((w:Int)*(h:Int))=((w*h:Nat):Int):=by simp
 refine⟨_,rfl,a,_,_,_,rfl,rfl,hT,rfl,_,rfl,a,_,_,_,rfl,rfl,hT,rfl,_,_,rfl,rfl,.inl ⟨by omega,by omega⟩,_,_,rfl,rfl,⟨by omega,by omega,by decide⟩,_,_,rfl,rfl,?_⟩;have e:(1:Int)*2^(((w:Int)*(h:Int))).toNat-1=((2^(w*h)-1:Nat):Int):=by rw[e1,fq];have:=Gf (w*h);omega
 simp only[e];exact q
def yG(K:Frag):Sp:=fun vs H Q _=>∃(c:Nat)(k:Int),vs=[.int c,.int k]/\Q (.bl (decide (0<=k)&&c.testBit k.toNat)) H
variable(jP:Df P w K mg base 1 "has" ["cells","cell"] (yG K))
theorem BU:ay ["cells","cell"] ["cells","cell"] (ao (top 10)):=by trivial
include B in
theorem Ca(T:Tx K mg "has" (top 10) ["cells","cell"]):Df P w K mg base 1 "has" ["cells","cell"] (yG K):=by
 refine T.df BU (by rintro _ _ _ _ ⟨c,k,rfl,q⟩;rfl) ?_;rintro f _ A _ s H _ Q E hr ⟨c,k,rfl,q⟩;refine⟨_,(ai (aw (cy (ba Dl (pv 1) ae (aA _)) (bQ (ba aV (aj mi (aj B8 (pv 0) (pv 1)) ae) ae (aA _)))))),?_⟩;refine⟨_,rfl,_,_,rfl,rfl,_,rfl,?_⟩;refine aT (fun h0=>?_) (fun h0=>?_)
 ·have h0':0<=k:=EA h0;refine⟨_,rfl,_,rfl,_,_,rfl,rfl,h0',_,_,rfl,rfl,rfl,?_⟩;rw[Co c k h0'];exact q
 ·have e:decide (0<=k)=false:=by simpa using h0
  rw[e]at q;exact q
def pS(K:Frag):Sp:=fun vs H Q _=>∃(c:Nat),vs=[.int c]/\c<2^64/\(c=0->Q .non H)/\(c≠0->Q (.int (ib c:Nat)) H)
variable(lI:Df P w K mg base 1 "lowest" ["cells"] (pS K))
theorem xF:ay ["cells"] ["cells"] (ao (top 12)):=by trivial
include B in
theorem xX(T:Tx K mg "lowest" (top 12) ["cells"]):Df P w K mg base 1 "lowest" ["cells"] (pS K):=by
 refine T.df xF (by rintro _ _ _ _ ⟨c,rfl,hc,q0,q1⟩;rfl) ?_;rintro f _ A _ s H _ Q E hr ⟨c,rfl,hc,q0,q1⟩;refine bq ?_;intro kX;refine ar 1 (ai (aw (aj aZ (vx PySem.F.plainAttrs_int PySem.F.slot_int_bit_length PySem.F.type_int_bit_length wU (aj mi (pv 0) (iK gV (pv 0)))) ae))) ?_;intro kR1 pR1;refine⟨_,(ah (aS (aC aV (pv 0) ae (aA _)) (ai (aw jg)) aD) pR1),?_⟩;refine⟨_,rfl,rfl,_,rfl,?_⟩;refine aT (fun h0=>?_) (fun h0=>?_)
 ·exact q0 (by have:=V.int.inj (EA h0);omega)
 ·have hne:c≠0:=fun z=>h0 (by rw[z];rfl);have q2:=q1 hne;rw[<-zw hc hne]at q2;exact⟨_,rfl,_,rfl,_,rfl,_,_,rfl,rfl,rfl,_,rfl,rfl,_,_,rfl,rfl,q2⟩
def kH(K:Frag):Sp:=fun vs H Q _=>∃(a:Addr)(w h k:Int),vs=[.ref a,.int k]/\SqT K H a [.int w,.int h]/\(0<w/\w<1073741824)/\Q (.int (k % w)) H
variable(fz:Df P w K mg base 1 "column_of" ["floor","cell"] (kH K))
theorem qQ:ay ["floor","cell"] ["floor","cell"] (ao (top 13)):=by trivial
include B in
theorem rA(T:Tx K mg "column_of" (top 13) ["floor","cell"]):Df P w K mg base 1 "column_of" ["floor","cell"] (kH K):=by refine T.df qQ (by rintro _ _ _ _ ⟨a,w,h,k,rfl,hT,hw,q⟩;rfl) ?_;rintro f _ A _ s H _ Q E hr ⟨a,w,h,k,rfl,hT,hw,q⟩;refine⟨_,(ai (aw (aj aY (pv 1) (aF aG (pv 0) ae (fun _ _=>rfl))))),?_⟩;exact⟨_,rfl,_,rfl,a,_,_,_,rfl,rfl,hT,rfl,_,_,rfl,rfl,hw.1,q⟩
def pQ(K:Frag):Sp:=fun vs H Q _=>∃(a:Addr)(w h k:Int),vs=[.ref a,.int k]/\SqT K H a [.int w,.int h]/\(0<w/\w<1073741824)/\Q (.int (k / w)) H
variable(jo:Df P w K mg base 1 "row_of" ["floor","cell"] (pQ K))
theorem xE:ay ["floor","cell"] ["floor","cell"] (ao (top 14)):=by trivial
include B in
theorem xV(T:Tx K mg "row_of" (top 14) ["floor","cell"]):Df P w K mg base 1 "row_of" ["floor","cell"] (pQ K):=by refine T.df xE (by rintro _ _ _ _ ⟨a,w,h,k,rfl,hT,hw,q⟩;rfl) ?_;rintro f _ A _ s H _ Q E hr ⟨a,w,h,k,rfl,hT,hw,q⟩;refine⟨_,(ai (aw (aj cb (pv 1) (aF aG (pv 0) ae (fun _ _=>rfl))))),?_⟩;exact⟨_,rfl,_,rfl,a,_,_,_,rfl,rfl,hT,rfl,_,_,rfl,rfl,hw,q⟩
def gF(K:Frag):Sp:=fun vs H Q _=>∃(x y:Int),vs=[.int x,.int y]/\Q (.int (Int.gcd x y:Nat)) H
variable(dU:Df P w K mg base 1 "common_divisor" ["one","other"] (gF K))
theorem bW:ay ["one","other","found","rest","behind"] ["one","other"] (ao (top 19)):=by trivial
include B uO in
theorem kW(T:Tx K mg "common_divisor" (top 19) ["one","other"]):Df P w K mg base 1 "common_divisor" ["one","other"] (gF K):=by
 refine T.df bW (by rintro _ _ _ _ ⟨x,y,rfl,q⟩;rfl) ?_;rintro f _ A _ s H _ Q E hr ⟨x,y,rfl,q⟩;refine bq ?_;intro kX;refine ar 3 (ai (aw (pv 2))) ?_;intro kR3 pR3;refine bU 2 2 (ai (az (i:=3) bW.nd rfl (by trivial) (pv 4))) ?_;intro kS2x2 pS2x2;refine bU 2 1 (ah (az (i:=2) bW.nd rfl (by trivial) (pv 3)) pS2x2) ?_;intro kS2x1 pS2x1;refine bU 2 0 (ah (az (i:=4) bW.nd rfl (by trivial) (aj wN (pv 2) (pv 3))) pS2x1) ?_;intro kS2x0 pS2x0;refine ar 2 (ah (jd FG (aC kR (pv 3) ae (aA _)) pS2x0) pR3) ?_;intro kR2 pR2;refine ar 1 (ah (az (i:=3) bW.nd rfl (by trivial) (aP uM (by rfl) uO boot_abs (aa (pv 1) af))) pR2) ?_;intro kR1 pR1;refine⟨_,(ah (az (i:=2) bW.nd rfl (by trivial) (aP uM (by rfl) uO boot_abs (aa (pv 0) af))) pR1),?_⟩;refine⟨_,rfl,_,rfl,_,rfl,_,rfl,?_⟩;refine⟨fun m σ H2=>∃(f r:Int)(o:Option V),σ=[some (.int x),some (.int y),some (.int f),some (.int r),o]/\H2=H/\Int.gcd f r=Int.gcd x y/\0<=f/\0<=r/\m=r.natAbs,⟨_,_,_,_,rfl,rfl,Be x y,Ac x,Ac y,rfl⟩,?_⟩;rintro m σ H2 ⟨f,r,o,rfl,rfl,hg,hf,hr,rfl⟩;refine⟨_,rfl,rfl,_,rfl,?_⟩;refine aT (fun h1=>?_) (fun h1=>?_)
 ·have h1':r≠0:=by
   intro z;rw[z]at h1
   revert h1
   decide
  refine⟨fun σ' H'=>∃o',σ'=[some (.int x),some (.int y),some (.int r),some (.int (f.fmod r)),o']/\H'=H2,?_,?_⟩
  ·rintro σ' H' ⟨o',rfl,rfl⟩;exact⟨_,uG f h1',r,f.fmod r,_,rfl,rfl,(uF f r).trans hg,hr,Int.fmod_nonneg_of_pos f (by omega),rfl⟩
  ·exact⟨_,rfl,_,rfl,_,_,rfl,rfl,h1',_,rfl,_,rfl,_,rfl,rfl⟩
 ·have h1':r=0:=Decidable.byContradiction fun z=>h1 (by simp[z]);subst h1';refine⟨_,rfl,?_⟩;rw[<-hg,<-gcd_zero,Fb (by omega)]at q;exact q
def nV(K:Frag):Sp:=fun vs H Q _=>∃(v:V)(d:PyData),vs=[v]/\DK K H v d/\∀H',aq H H'->Q (.bl (nmD d)) H'
variable(ck:Df P w K mg base 1 "is_name" ["thing"] (nV K))
theorem vo:ay ["thing"] ["thing"] (ao (top 32)):=by trivial
include B eM jv ig in
theorem vG (T : Tx K mg "is_name" (top 32) ["thing"]) : Df P w K mg base 1 "is_name" ["thing"] (nV K) := by
    refine T.df vo (by rintro _ _ _ _ ⟨v, d, rfl, ⟨hd, ⟨n, ty⟩, th⟩, q⟩; rfl) ?_
    rintro f _ A _ s H _ Q E hr ⟨v, d, rfl, ⟨hd, ⟨n, ty⟩, th⟩, q⟩
    refine bq ?_
    intro kX
    refine ar 1 (ai (aw (cy (oq mT mT ae (aP r6 (by rfl) B.len PySem.boot_len (aa (pv 0) af)) (bw (v := .int 8) (by rfl) eM.choose_spec ⟨_, rfl⟩)) (bQ (aP (jA rfl) (by rfl) ig (by trivial) (aa (cV ["sign"] [] (jr _ []) rfl (by rfl) rfl (by trivial) (by trivial) (bT (by rfl)) (fC (by rfl)) mN mN (dZ (by decide)) (B0 (pv 0)) (fun _ _ _ _ => bJ (i := 0) (show (["sign"] : List Str).Nodup by trivial) rfl (Or.inl rfl) (Or.inr rfl)) (fun _ _ _ _ => dE) (fun _ _ _ _ => (ba xT (pv 0) (bw (v := .str LET) (by rfl) jv.choose_spec ⟨_, rfl⟩) (by with_unfolding_all rfl)))) af)))))) ?_
    intro kR1 pR1
    refine ⟨_, (ah (aS (cw (cn (aP cL (by rfl) B.isinstance boot_isinstance (aa (pv 0) (aa (dh (x := "str") (v := .ty "str") (by rfl) B.str boot_str rfl) af))))) (ai (aw eI)) aD) pR1), ?_⟩
    have k1 := A0 K ty
    refine ⟨_, rfl, _, _, _, _, rfl, ty, k1, _, rfl, ?_⟩
    cases hd with
    | str x =>
      obtain ⟨asc, lx⟩ := th.asc x rfl
      refine bP ?_
      refine ⟨_, rfl, _, rfl, by have : (100 : Nat) ≤ sizeLine := by decide
                                 omega, _, _, rfl, rfl, _, rfl, ?_⟩
      have en : nmD (.str x) = (decide (1 ≤ (x.length : Int)) && decide ((x.length : Int) ≤ 8) && x.cps.toList.all Cf) := rfl
      refine aT (fun h1 => ?_) (fun h1 => ?_)
      · refine ⟨_, _, rfl, rfl, _, rfl, ?_⟩
        refine aT (fun h2 => ?_) (fun h2 => ?_)
        · refine ⟨_, rfl, x, rfl, asc, fun A1 hA1 => ?_⟩
          refine DF (x := x) (fun i acc H2 => H2 = upd H A1 (.lst acc) ∧ acc = ((x.cps.toList.take i).map Cf).map V.bl) ⟨rfl, rfl⟩ ?_ ?_
          · rintro i c acc H2 hi ⟨rfl, rfl⟩
            refine iL ?_
            intro kq1 kr1
            have hc : x.cps.toList[i]? = some c := by rw [Array.getElem?_toList]; exact hi
            have il : i < x.cps.size := by
              have := (List.getElem?_eq_some_iff.mp hc).1
              simpa using this
            have lx' : x.cps.size ≤ 100 := lx
            refine ⟨_, rfl, _, _, rfl, rfl, ag, aM (by rw [List.length_map, List.length_map, List.length_take]; omega), by rw [c8], ?_⟩
            rw [List.take_add_one, hc, Option.toList_some, List.map_append, List.map_append]
            rfl
          · rintro acc H2 ⟨rfl, rfl⟩
            rw [show x.cps.size = x.cps.toList.length by simp, List.take_length]
            refine ⟨A1, _, rfl, .inl ag, ?_⟩
            rw [en, h1, h2, Bool.true_and, Bool.true_and] at q
            rw [List.all_map]
            exact q _ (aq.upd hA1)
        · rw [en, show decide ((x.length : Int) ≤ 8) = false from by simpa using h2, Bool.and_false, Bool.false_and] at q
          exact q _ (aq.refl _)
      · rw [en, show decide (1 ≤ (x.length : Int)) = false from by simpa using h1, Bool.false_and, Bool.false_and] at q
        exact ⟨_, rfl, bP (q _ (aq.refl _))⟩
    | _ => exact fL (q _ (aq.refl _))
def ku(K:Frag):Sp:=fun vs H Q _=>∃(v:V)(d:PyData)(t:Addr)(xs:List Str),vs=[v,.ref t]/\TD H d v/\SqT K H t (xs.map V.str)/\Q (.bl (inS xs d)) H
variable(dH:Df P w K mg base 1 "is_one_of" ["thing","texts"] (ku K))
theorem qG:ay ["thing","texts"] ["thing","texts"] (ao (top 45)):=by trivial
include B in
theorem rg(T:Tx K mg "is_one_of" (top 45) ["thing","texts"]):Df P w K mg base 1 "is_one_of" ["thing","texts"] (ku K):=by
 refine T.df qG (by rintro _ _ _ _ ⟨v,d,t,xs,rfl,hd,ht,q⟩;rfl) ?_;rintro f _ A _ s H _ Q E hr ⟨v,d,t,xs,rfl,hd,ht,q⟩;refine⟨_,(ai (aw (cy (aP cL (by rfl) B.isinstance Fn (aa (pv 0) (aa (dh (x:="str") (v:=.ty "str") (by rfl) B.str boot_str rfl) af))) (bQ (ba hZ (pv 0) (pv 1) (by with_unfolding_all rfl)))))),?_⟩;refine⟨_,rfl,_,_,_,_,rfl,hd.ty,Dv K d,_,rfl,?_⟩;cases hd with
 |str x _ _=>refine fL ⟨_,rfl,_,rfl,t,_,rfl,.inr ht,rfl,qh xs,?_⟩;show Q (.bl (inV (.str x) (xs.map V.str))) H;rw[oZ];exact q
 |_=>exact bP q
def kq(K:Frag):Sp:=fun vs H Q _=>∃(a:Addr)(xs:List Str),vs=[.ref a]/\(SqL K H a (xs.map V.str)\/SqT K H a (xs.map V.str))/\xs.length<=100/\∀H',aq H H'->Q (.bl (rise xs)) H'
variable(dG:Df P w K mg base 1 "is_rising" ["names"] (kq K))
theorem qE:ay ["names"] ["names"] (ao (top 46)):=by trivial
include B ig in
theorem rf(T:Tx K mg "is_rising" (top 46) ["names"]):Df P w K mg base 1 "is_rising" ["names"] (kq K):=by
 refine T.df qE (by rintro _ _ _ _ ⟨a,xs,rfl,ha,lx,q⟩;rfl) ?_;rintro f _ A _ s H _ Q E hr ⟨a,xs,rfl,ha,lx,q⟩;refine⟨_,(ai (aw (aP (jA rfl) (by rfl) ig (by trivial) (aa (cV ["place"] [("names",0)] (jr _ ["names"]) rfl (by rfl) rfl (by trivial) (by trivial) (bT (by rfl)) (fC (by rfl)) (mC ⟨rfl,rfl⟩ mN) (mC rfl mN) (dZ (by decide)) (xQ (by rfl) B.range (aa ae (aa (aP br (by rfl) B.len Fv (aa (pv 0) af)) af))) (fun _ _ _ _=>bJ (i:=0) (show(["place","names"]:List Str).Nodup by trivial) rfl (Or.inl rfl) (Or.inr rfl)) (fun _ _ _ _=>dE) (fun _ _ _ _=>(ba xS (aF (w4 (K:=K) rfl) (pv 1) (aj aZ (pv 0) ae) (fun _ _=>rfl)) (aF (w4 (K:=K) rfl) (pv 1) (pv 0) (fun _ _=>rfl)) (aA _)))) af)))),?_⟩;have ly:(xs.map V.str).length=xs.length:=Ew ..;refine⟨_,rfl,_,_,rfl,ha,_,_,rfl,⟨by decide,by decide,by omega,by omega⟩,fun D hD=>?_⟩;rw[show(((xs.map V.str).length:Nat):Int)-1=((xs.map V.str).length:Int)-1 from rfl];refine qi (n:=((((xs.map V.str).length:Nat):Int)-1).toNat) (lo:=1) (fun i acc H6=>H6=upd H D (.lst acc)/\acc=((List.range i).map (jN xs)).map V.bl) ⟨rfl,rfl⟩ ?_ ?_
 ·rintro i acc H6 hi ⟨rfl,rfl⟩;refine iL ?_;intro kq1 kr1;have il:i+1<xs.length:=by omega
  have e0:xs[i]?=some xs[i]:=ER (by omega);have e1:xs[i+1]?=some xs[i+1]:=ER il;have a1:atI (xs.map V.str) ((1:Int)+(i:Int)-1)=some (.str xs[i]):=by rw[show(1:Int)+(i:Int)-1=((i:Nat):Int) by omega];exact aB (by rw[E8,e0];rfl)
  have a0:atI (xs.map V.str) ((1:Int)+(i:Int))=some (.str xs[i+1]):=by rw[show(1:Int)+(i:Int)=((i+1:Nat):Int) by omega];exact aB (by rw[E8,e1];rfl)
  have ha':SqL K (upd H D (.lst (((List.range i).map (jN xs)).map V.bl))) a (xs.map V.str)\/SqT K (upd H D (.lst (((List.range i).map (jN xs)).map V.bl))) a (xs.map V.str):=ha.imp (fun z=>(aq.upd hD).seq z) (fun z=>(aq.upd hD).tup z);refine⟨_,rfl,_,rfl,_,_,rfl,rfl,a,_,_,_,rfl,rfl,ha',a1,_,rfl,_,rfl,a,_,_,_,rfl,rfl,ha',a0,_,_,rfl,rfl,ag,aM (by rw[Ew,Ew,List.length_range];omega),by rw[c8],?_⟩;rw[Gg,EK,EK];have er:jN xs i=decide (xs[i].cps.toList<xs[i+1].cps.toList):=by unfold jN;rw[e0,e1]
  rw[<-er];rfl
 ·rintro acc H6 ⟨rfl,rfl⟩;refine⟨D,_,rfl,.inl ag,?_⟩;have en:((((xs.map V.str).length:Nat):Int)-1).toNat=xs.length-1:=by omega
  have:=q _ (aq.upd (o:=.lst (((List.range (xs.length-1)).map (jN xs)).map V.bl)) hD);rw[om]at this;rw[en];exact this
def iT(K:Frag):Sp:=fun vs H Q _=>∃(v:V)(d:PyData)(n:Nat),vs=[v,.int (n:Nat)]/\TD H d v/\Q (.bl (match d with| .tuple ds=>decide (ds.length=n)|_=>false)) H
variable(cG:Df P w K mg base 1 "is_tuple_of" ["thing","many"] (iT K))
theorem oa:ay ["thing","many"] ["thing","many"] (ao (top 47)):=by trivial
include B in
theorem oF(T:Tx K mg "is_tuple_of" (top 47) ["thing","many"]):Df P w K mg base 1 "is_tuple_of" ["thing","many"] (iT K):=by
 refine T.df oa (by rintro _ _ _ _ ⟨v,d,n,rfl,hd,q⟩;rfl) ?_;rintro f _ A _ s H _ Q E hr ⟨v,d,n,rfl,hd,q⟩;refine⟨_,(ai (aw (cy (aP cL (by rfl) B.isinstance Fn (aa (pv 0) (aa (dh (x:="tuple") (v:=.ty "tuple") (by rfl) B.tuple boot_tuple rfl) af))) (bQ (ba aV (aP br (by rfl) B.len Fv (aa (pv 0) af)) (pv 1) (aA _)))))),?_⟩;refine⟨_,rfl,_,_,_,_,rfl,hd.ty,A2 K d,_,rfl,?_⟩;cases hd with
 | @tup a vs ds h z=>
  refine fL ⟨_,rfl,a,vs,rfl,.inr (SqT.of h),_,rfl,rfl,?_⟩;have e:decide (V.int ((vs.length:Nat):Int)=V.int ((n:Nat):Int))=decide (ds.length=n):=by rw[z.len,Fu,Ez,Ez];exact⟨fun e=>Int.ofNat.inj (V.int.inj e),fun e=>by rw[e]⟩
  rw[e];exact q
 |_=>exact bP q
def mP(K:Frag):Sp:=fun vs H Q _=>∃(v:V)(d:PyData),vs=[v]/\TD H d v/\Q (.bl (fu d).isSome) H
variable(ix:Df P w K mg base 1 "has_kind" ["row"] (mP K))
theorem tI:ay ["row"] ["row"] (ao (top 72)):=by trivial
include B Y_LOOKS in
theorem tZ(T:Tx K mg "has_kind" (top 72) ["row"]):Df P w K mg base 1 "has_kind" ["row"] (mP K):=by
 obtain⟨pL,kvs,gL,dL,nL,lL⟩:=Y_LOOKS.ex;refine T.df tI (by rintro _ _ _ _ ⟨v,d,rfl,hd,q⟩;rfl) ?_;rintro f _ A _ s H _ Q E hr ⟨v,d,rfl,hd,q⟩;refine bq ?_;intro kX;refine ar 1 (ai (aw (cy (B5 (B6 (aF aG (pv 0) ae (fun _ _=>rfl)) (bw (v:=.ref pL) (by rfl) gL rfl))) (bQ (ba aV (aP br (by rfl) B.len Fv (aa (pv 0) af)) (aj bf (aP br (by rfl) B.len Fv (aa (wJ (bw (v:=.ref pL) (by rfl) gL rfl) (aF aG (pv 0) ae (fun _ _=>rfl)) (fun _ _=>rfl)) af)) ae) (aA _)))))) ?_;intro kR1 pR1;refine⟨_,(ah (aS ((iJ (cw (cn (aP cL (by rfl) B.isinstance Fn (aa (pv 0) (aa (dh (x:="tuple") (v:=.ty "tuple") (by rfl) B.tuple boot_tuple rfl) af))))) (iJ (aC aV (aP br (by rfl) B.len Fv (aa (pv 0) af)) ae (aA _)) (ip (cw (cn (aP cL (by rfl) B.isinstance Fn (aa (aF aG (pv 0) ae (fun _ _=>rfl)) (aa (dh (x:="str") (v:=.ty "str") (by rfl) B.str boot_str rfl) af)))))))).pt) (ai (aw eI)) aD) pR1),?_⟩;refine⟨_,rfl,_,_,_,_,rfl,hd.ty,A2 K d,_,rfl,?_⟩;cases hd with
 | @tup a vs ds h z=>
  refine bP ⟨_,rfl,a,vs,rfl,.inr (SqT.of h),rfl,_,rfl,?_⟩;have lz:=z.len;refine aT (fun y=>?_) (fun y=>?_)
  ·have y':vs.length=0:=(by have:=veq.mp y;omega);have e:ds=[]:=List.length_eq_zero_iff.mp (by omega);rw[e]at q;exact q
  have y':vs.length≠0:=fun c=>y (veq.mpr (by rw[c];rfl));obtain⟨d0,r,rfl⟩:∃d0 r,ds=d0::r:=by
   cases ds with
   |nil=>exact absurd lz (by simpa using y')
   |cons d0 r=>exact⟨d0,r,rfl⟩
  cases z with
  | @cons _ v0 _ us z0 z=>
  refine⟨_,rfl,a,_,_,_,rfl,rfl,SqT.of h,aB (j:=0) rfl,_,_,_,_,rfl,z0.ty,Dv K d0,_,rfl,?_⟩;cases z0 with
  |str x _ _=>
   refine bP ⟨_,rfl,a,_,_,_,rfl,rfl,SqT.of h,aB (j:=0) rfl,pL,kvs,x,rfl,dL,rfl,_,rfl,?_⟩;have ek:fu (.tuple (.str x::r))=match bE x with
    |some ls=>if r.length=ls.length then some ls else none
    |none=>none:=rfl
   rw[ek]at q;have en:=uq x;cases el:bE x with
   |none=>rw[el]at q en;rw[nL x en];exact bP q
   |some ls=>
    rw[el]at q en;obtain⟨t,fs,e1,e2,e3⟩:=lL x _ en;rw[e1];refine fL ⟨_,rfl,a,_,rfl,.inr (SqT.of h),_,rfl,a,_,_,_,rfl,rfl,SqT.of h,aB (j:=0) rfl,pL,kvs,x,_,rfl,dL,rfl,e1,t,_,rfl,.inr (e2 H),_,_,rfl,rfl,rfl,?_⟩;have l1:us.length=r.length:=z.len;have l2:fs.length=ls.length:=(by rw[Paired.length e3,Ew]);have e4:decide (V.int (((V.str x::us).length:Nat):Int)=V.int ((((fs.map V.ref).length:Nat):Int)+1))=(if r.length=ls.length then some ls else none).isSome:=by
     rw[Fu,Ez];by_cases c:r.length=ls.length
     ·rw[Fl c];exact⟨fun _=>rfl,fun _=>by congr 1;rw[ES,Ew];omega⟩
     ·rw[Fb c];exact⟨fun e=>absurd (by have:=V.int.inj e;rw[ES,Ew]at this;omega) c,fun e=>by cases e⟩
    show Q (.bl (decide (V.int (((V.str x::us).length:Nat):Int)=V.int ((((fs.map V.ref).length:Nat):Int)+1)))) H;rw[e4];exact q
  |_=>exact fL q
 |_=>exact fL q
def iR(K:Frag):Sp:=fun vs H Q _=>∃(a:Addr)(ns:List Int)(k:Nat),vs=[.ref a,.int k]/\SqL K H a (ns.map V.int)/\Q (.int (ns.getD k 0)) H
variable(aU:Df P w K mg base 1 "_law_cell_at" ["_law_script","_law_k"] (iR K))
theorem nY:ay ["_law_script","_law_k"] ["_law_script","_law_k"] (ao (top 75)):=by trivial
include B in
theorem oC(T:Tx K mg "_law_cell_at" (top 75) ["_law_script","_law_k"]):Df P w K mg base 1 "_law_cell_at" ["_law_script","_law_k"] (iR K):=by
 refine T.df nY (by rintro _ _ _ _ ⟨a,ns,k,rfl,hS,q⟩;rfl) ?_;rintro f _ A _ s H _ Q E hr ⟨a,ns,k,rfl,hS,q⟩;refine bq ?_;intro kX;refine ar 1 (ai (aw ae)) ?_;intro kR1 pR1;refine⟨_,(ah (aS (aC ow (pv 1) (aP br (by rfl) B.len Fv (aa (pv 0) af)) (aA _)) (ai (aw (aF bH (pv 0) (pv 1) (fun _ _=>rfl)))) aD) pR1),?_⟩;refine⟨_,rfl,_,rfl,a,_,rfl,.inl hS,_,_,rfl,rfl,_,rfl,?_⟩;refine aT (fun h1=>?_) (fun h1=>?_)
 ·have h1':k<ns.length:=by
   have:=EA h1;rw[Ew]at this;omega
  refine⟨_,rfl,_,rfl,a,_,_,_,rfl,rfl,hS,aB (show(ns.map V.int)[k]?=some (.int (ns.getD k 0)) by simp[h1',List.getD]),q⟩
 ·have h1':¬k<ns.length:=fun z=>h1 (by
   rw[Ez,Ew]
   omega)
  have e:ns.getD k 0=0:=by simp[List.getD,Nat.le_of_not_lt h1']
  rw[e]at q;exact q
def kj(K:Frag):Sp:=fun vs H Q _=>∃(x:V)(n:String),vs=[x]/\dJ K H x (.type n)/\Q (.bl (isI x)) H
variable(cM:Df P w K mg base 1 "_law_whole" ["_law_found"] (kj K))
theorem qC:ay ["_law_found"] ["_law_found"] (ao (top 76)):=by trivial
include B in
theorem qV(T:Tx K mg "_law_whole" (top 76) ["_law_found"]):Df P w K mg base 1 "_law_whole" ["_law_found"] (kj K):=by
 refine T.df qC (by rintro _ _ _ _ ⟨x,n,rfl,ty,q⟩;rfl) ?_;rintro f _ A _ s H _ Q E hr ⟨x,n,rfl,ty,q⟩;refine⟨_,(ai (aw (cy (aP cL (by rfl) B.isinstance Fn (aa (pv 0) (aa (dh (x:="int") (v:=.ty "int") (by rfl) B.int boot_int rfl) af))) (bQ (y8 (aP cL (by rfl) B.isinstance Fn (aa (pv 0) (aa (dh (x:="bool") (v:=.ty "bool") (by rfl) B.bool boot_bool rfl) af)))))))),?_⟩;have k1:=wX K ty;have k2:=oV K ty;refine⟨_,rfl,_,_,_,_,rfl,ty,k1,_,rfl,?_⟩;refine aT (fun h1=>?_) (fun h1=>?_)
 ·refine⟨_,rfl,_,_,_,_,rfl,ty,k2,_,rfl,?_⟩;cases x<;>simp_all [isI,isB]
 ·cases x<;>simp_all [isI,isB]
def mM(K:Frag):Sp:=fun vs H Q _=>∃(c:Int),vs=[.int c]/\∀r:Int,Q (.int r) H
variable(eY:Df P w K mg base 1 "_law_bits" ["_law_cell"] (mM K))
theorem mS:ay ["_law_cell","_law_one"] ["_law_cell"] (ao (top 77)):=by trivial
include B in
theorem tX(T:Tx K mg "_law_bits" (top 77) ["_law_cell"]):Df P w K mg base 1 "_law_bits" ["_law_cell"] (mM K):=by refine T.df mS (by rintro _ _ _ _ ⟨c,rfl,q⟩;rfl) ?_;rintro f _ A _ s H _ Q E hr ⟨c,rfl,q⟩;refine bq ?_;intro kX;refine ar 1 (ai (aw (aj B7 (pv 1) (aj cb (pv 1) ae)))) ?_;intro kR1 pR1;refine⟨_,(ah (az (i:=1) mS.nd rfl (by trivial) (aj aY (aj bN (aj aY (pv 0) (aj bC ae ae)) ae) (aj bC ae ae))) pR1),?_⟩;refine⟨_,rfl,_,_,rfl,rfl,⟨by decide,by decide,by decide⟩,_,_,rfl,rfl,(by show(0:Int)<_;decide),_,_,rfl,rfl,.inl (Dn c),_,_,rfl,rfl,⟨by decide,by decide,by decide⟩,_,_,rfl,rfl,(by show(0:Int)<_;decide),?_⟩;exact⟨_,rfl,_,rfl,_,_,rfl,rfl,⟨by decide,by decide⟩,_,_,rfl,rfl,q _⟩
def kl(K:Frag):Sp:=fun vs H Q _=>∃(r:Int)(w h:Nat),vs=[.int r,.int w,.int h]/\(0<w/\w<=8/\0<h/\h<=8)/\∀(v:Int) H',aq H H'->Q (.int v) H'
variable(gH:Df P w K mg base 1 "_law_shape" ["_law_rest","_law_wide","_law_high"] (kl K))
theorem b9:ay ["_law_rest","_law_wide","_law_high","_law_found","_law_k","_law_x","_law_y","_law_held"] ["_law_rest","_law_wide","_law_high"] (ao (top 78)):=by trivial
include B in
theorem qW(T:Tx K mg "_law_shape" (top 78) ["_law_rest","_law_wide","_law_high"]):Df P w K mg base 1 "_law_shape" ["_law_rest","_law_wide","_law_high"] (kl K):=by
 refine T.df b9 (by rintro _ _ _ _ ⟨r,w,h,rfl,⟨hw,hw8,hh,hh8⟩,q⟩;rfl) ?_;rintro f _ A _ s H _ Q E hr ⟨r,w,h,rfl,⟨hw,hw8,hh,hh8⟩,q⟩;refine bq ?_;intro kX;refine ar 2 (ai (aw (pv 3))) ?_;intro kR2 pR2;refine bU 1 3 (ai (aS (aC kR (pv 7) (ba aV (pv 4) (aj aY (aj cb (pv 0) ae) (aj bN (pv 1) (pv 2))) (aA _)) (aA _)) (ai (az (i:=3) b9.nd rfl (by trivial) (aj bf (pv 3) (aj cK ae (pv 4))))) aD)) ?_;intro kS1x3 pS1x3;refine bU 1 2 (bj (aS (aC aV (aj aY (pv 0) ae) ae (aA _)) (ai (az (i:=7) b9.nd rfl (by trivial) (pZ (ba aV (aj aY (pv 6) ae) ae (aA _)) (bQ (ba aV (pv 5) (aF bH (bK (aa (aj aZ (pv 1) ae) (aa ae af))) (aj aY (aj cb (pv 6) ae) ae) (fun _ _=>rfl)) (aA _)))))) (ai (aS (aC aV (aj aY (pv 0) ae) ae (aA _)) (ai (az (i:=7) b9.nd rfl (by trivial) (pZ (ba hZ (pv 5) (bu (aa ae (aa (aj aZ (pv 1) ae) af))) (by with_unfolding_all rfl)) (bQ (ba hZ (pv 6) (bu (aa ae (aa (aj aZ (pv 2) ae) af))) (by with_unfolding_all rfl)))))) (ai (az (i:=7) b9.nd rfl (by trivial) (ba aV (aj aY (aj bf (pv 5) (pv 6)) ae) (aj aY (aj cb (pv 0) ae) ae) (aA _))))))) pS1x3) ?_;intro kS1x2 pS1x2;refine bU 1 1 (ah (az (i:=6) b9.nd rfl (by trivial) (aj cb (pv 4) (pv 1))) pS1x2) ?_;intro kS1x1 pS1x1;refine bU 1 0 (ah (az (i:=5) b9.nd rfl (by trivial) (aj aY (pv 4) (pv 1))) pS1x1) ?_;intro kS1x0 pS1x0;refine ar 1 (ah (je FG rfl (eT (by rfl) B.range (aa (aj bN (pv 1) (pv 2)) af)) (bJ (i:=4) b9.nd rfl (by trivial)) pS1x0) pR2) ?_;intro kR1 pR1;refine⟨_,(ah (az (i:=3) b9.nd rfl (by trivial) ae) pR1),?_⟩;have hwh:w*h<=64:=Fw hw8 hh8;have hwp:0<w*h:=Nat.mul_pos hw hh;have e1:((w:Int)*(h:Int))=((w*h:Nat):Int):=by simp
 refine⟨_,rfl,_,rfl,_,_,rfl,rfl,.inl ⟨by omega,by omega⟩,_,rfl,by omega,by omega,?_⟩;refine ym (lo:=0) (fun i σ H2=>∃v o4 o5 o6 o7,σ=[some (.int r),some (.int w),some (.int h),some (.int v),o4,o5,o6,o7]/\aq H H2) ⟨0,none,none,none,none,rfl,aq.refl _⟩ ?_ ?_
 ·rintro i σ H2 hi ⟨v,o4,o5,o6,o7,rfl,s2⟩;refine oX ?_;intro kD1;have hi':i<64:=by
   rw[e1,ET]at hi;omega
  have y2:=Int.emod_two_eq (((0+(i:Int)) / (w:Int)) / 2);refine⟨_,rfl,_,rfl,_,_,rfl,rfl,(by omega),_,rfl,_,rfl,_,_,rfl,rfl,⟨by omega,by omega⟩,?_⟩;refine⟨fun σ' H'=>∃b,σ'=[some (.int r),some (.int w),some (.int h),some (.int v),some (.int (0+(i:Int))),some (.int ((0+(i:Int)) % (w:Int))),some (.int ((0+(i:Int)) / (w:Int))),some (.bl b)]/\aq H H',?_,?_⟩
  ·refine dW ?_;intro kD2;refine⟨_,rfl,_,_,rfl,rfl,(by show(0:Int)<_;decide),rfl,_,rfl,?_⟩;refine aT (fun h1=>?_) (fun h1=>?_)
   ·refine⟨_,rfl,_,_,rfl,rfl,(by show(0:Int)<_;decide),rfl,_,rfl,?_⟩;refine aT (fun h2=>?_) (fun h2=>?_)
    ·exact⟨_,rfl,s2⟩
    ·refine⟨_,rfl,_,rfl,_,_,rfl,rfl,aK rfl,fun l hl=>?_⟩;have s3:=s2.trans (aq.upd (o:=.lst [.int ((w:Int)-1),.int 0]) hl);obtain⟨v3,y3⟩:∃v3:Int,atI [V.int ((w:Int)-1),.int 0] ((((0+(i:Int)) / (w:Int)) / 2) % 2)=some (.int v3):=by
      rcases y2 with y2|y2
      ·rw[y2];exact⟨_,rfl⟩
      ·rw[y2];exact⟨_,rfl⟩
     refine⟨_,rfl,_,_,rfl,rfl,⟨by decide,by decide⟩,_,_,rfl,rfl,(by show(0:Int)<_;decide),l,_,_,_,rfl,rfl,SqL.of ag,y3,rfl,?_⟩;exact⟨_,rfl,s3⟩
   ·refine⟨_,rfl,_,_,rfl,rfl,(by show(0:Int)<_;decide),rfl,_,rfl,?_⟩;refine aT (fun h2=>?_) (fun h2=>?_)
    ·refine⟨_,rfl,_,rfl,_,_,rfl,rfl,aK rfl,fun t ht=>?_⟩;have s3:=s2.trans (aq.upd (o:=.tup [.int 0,.int ((w:Int)-1)]) ht);refine⟨t,_,rfl,.inr (SqT.of ag),rfl,rfl,_,rfl,?_⟩;refine aT (fun h3=>?_) (fun h3=>?_)
     ·exact⟨_,rfl,s3⟩
     ·refine⟨_,rfl,_,rfl,_,_,rfl,rfl,aK rfl,fun t2 ht2=>?_⟩;have s4:=s3.trans (aq.upd (o:=.tup [.int 0,.int ((h:Int)-1)]) ht2);refine⟨t2,_,rfl,.inr (SqT.of ag),rfl,rfl,?_⟩;exact⟨_,rfl,s4⟩
    ·refine⟨_,rfl,_,rfl,_,_,rfl,rfl,_,_,rfl,rfl,(by show(0:Int)<_;decide),_,rfl,_,_,rfl,rfl,⟨by decide,by decide⟩,_,_,rfl,rfl,(by show(0:Int)<_;decide),rfl,?_⟩;exact⟨_,rfl,s2⟩
  ·rintro σ' H' ⟨b,rfl,s5⟩;refine⟨_,rfl,_,rfl,_,rfl,_,_,rfl,rfl,⟨by decide,by decide⟩,_,rfl,_,rfl,_,_,rfl,rfl,.inl ⟨by omega,by omega⟩,_,_,rfl,rfl,(by rw[e1];omega),rfl,rfl,_,rfl,?_⟩;refine aT (fun h9=>?_) (fun h9=>?_)
   ·refine⟨_,rfl,_,rfl,_,_,rfl,rfl,⟨by omega,by omega,by decide⟩,_,_,rfl,rfl,?_⟩;exact⟨_,_,_,_,_,rfl,s5⟩
   ·exact⟨_,_,_,_,_,rfl,s5⟩
 ·rintro σ H2 ⟨v,o4,o5,o6,o7,rfl,s2⟩;exact⟨_,rfl,q _ _ s2⟩
def nR(K:Frag):Sp:=fun vs H Q _=>∃(c k:Nat),vs=[.int c,.int k]/\k<=64/\Q (.bl (c.testBit k)) H
variable(ie:Df P w K mg base 1 "_law_has" ["_law_ground","_law_cell"] (nR K))
theorem vk:ay ["_law_ground","_law_cell"] ["_law_ground","_law_cell"] (ao (top 80)):=by trivial
include B in
theorem vC(T:Tx K mg "_law_has" (top 80) ["_law_ground","_law_cell"]):Df P w K mg base 1 "_law_has" ["_law_ground","_law_cell"] (nR K):=by refine T.df vk (by rintro _ _ _ _ ⟨c,k,rfl,hk,q⟩;rfl) ?_;rintro f _ A _ s H _ Q E hr ⟨c,k,rfl,hk,q⟩;refine⟨_,(ai (aw (ba aV (aj aY (aj oy (pv 0) (aj cK ae (pv 1))) ae) ae (aA _)))),?_⟩;refine⟨_,rfl,_,rfl,_,_,rfl,rfl,⟨by omega,by omega,by decide⟩,_,_,rfl,rfl,⟨tN _,AF k hk⟩,_,_,rfl,rfl,(by show(0:Int)<_;decide),rfl,?_⟩;rw[AZ c k];exact q
def jF(K:Frag):Sp:=fun vs H Q _=>∃(w h k:Int),vs=[.int w,.int h,.int k]/\(0<w/\w<1073741824)/\∀l,H l=none->Q (.ref l) (upd H l (.lst ((wR w h k).map V.int)))
variable(fP:Df P w K mg base 1 "_law_nearby" ["_law_wide","_law_high","_law_cell"] (jF K))
theorem jL:ay ["_law_wide","_law_high","_law_cell","_law_found"] ["_law_wide","_law_high","_law_cell"] (ao (top 81)):=by trivial
include B in
theorem pF(T:Tx K mg "_law_nearby" (top 81) ["_law_wide","_law_high","_law_cell"]):Df P w K mg base 1 "_law_nearby" ["_law_wide","_law_high","_law_cell"] (jF K):=by
 refine T.df jL (by rintro _ _ _ _ ⟨w,h,k,rfl,hw,q⟩;rfl) ?_;rintro f _ A _ s H _ Q E hr ⟨w,h,k,rfl,hw,q⟩;refine bq ?_;intro kX;refine ar 5 (ai (aw (pv 3))) ?_;intro kR5 pR5;refine ar 4 (bj (aS (aC ow (aj cb (pv 2) (pv 0)) (aj aZ (pv 1) ae) (aA _)) (ai (de (hX EU EW EV bY (pv 3) (aa (aj bf (pv 2) (pv 0)) af)))) aD) pR5) ?_;intro kR4 pR4;refine ar 3 (bj (aS (aC ow (aj aY (pv 2) (pv 0)) (aj aZ (pv 0) ae) (aA _)) (ai (de (hX EU EW EV bY (pv 3) (aa (aj bf (pv 2) ae) af)))) aD) pR4) ?_;intro kR3 pR3;refine ar 2 (bj (aS (aC mU (aj aY (pv 2) (pv 0)) ae (aA _)) (ai (de (hX EU EW EV bY (pv 3) (aa (aj aZ (pv 2) ae) af)))) aD) pR3) ?_;intro kR2 pR2;refine ar 1 (bj (aS (aC mU (aj cb (pv 2) (pv 0)) ae (aA _)) (ai (de (hX EU EW EV bY (pv 3) (aa (aj aZ (pv 2) (pv 0)) af)))) aD) pR2) ?_;intro kR1 pR1;refine⟨_,(ah (az (i:=3) jL.nd rfl (by trivial) (bK af)) pR1),?_⟩;refine⟨EH _,fun l hl=>?_⟩;have q':=q l hl;refine⟨fun σ' H'=>σ'=[some (.int w),some (.int h),some (.int k),some (.ref l)]/\H'=upd H l (.lst ((([]:List Int)++if decide (0<k / w)=true then[k-w]else[]).map V.int)),?_,?_⟩
 ·refine dW ?_;intro kD1;refine⟨_,rfl,_,rfl,_,_,rfl,rfl,hw,_,_,rfl,rfl,_,rfl,?_⟩;refine aT (fun h1=>?_) (fun h1=>?_)
  ·refine⟨_,rfl,.inl ⟨rfl,_,SqL.of ag⟩,_,rfl,_,rfl,_,_,rfl,rfl,l,_,_,rfl,rfl,ag,?_,?_⟩
   ·exact aM (by simp only[Ew,EC,FH];(repeat' split)<;>simp)
   ·have e:(([]:List Int)++if decide (0<k / w)=true then[k-w]else[])=([]:List Int)++[k-w]:=(by rw[Fl h1]);refine⟨rfl,?_⟩;rw[c8,e];simp only[EK,Fe,FY,FA]
  ·have e:(([]:List Int)++if decide (0<k / w)=true then[k-w]else[])=([]:List Int):=(by rw[Fb h1,E2]);refine⟨rfl,?_⟩;rw[e]<;>rfl
 rintro σ' H' ⟨rfl,rfl⟩;refine⟨fun σ' H'=>σ'=[some (.int w),some (.int h),some (.int k),some (.ref l)]/\H'=upd H l (.lst (((([]:List Int)++if decide (0<k / w)=true then[k-w]else[])++if decide (0<k % w)=true then[k-1]else[]).map V.int)),?_,?_⟩
 ·refine dW ?_;intro kD2;refine⟨_,rfl,_,rfl,_,_,rfl,rfl,hw.1,_,_,rfl,rfl,_,rfl,?_⟩;refine aT (fun h1=>?_) (fun h1=>?_)
  ·refine⟨_,rfl,.inl ⟨rfl,_,SqL.of ag⟩,_,rfl,_,_,rfl,rfl,l,_,_,rfl,rfl,ag,?_,?_⟩
   ·exact aM (by simp only[Ew,EC,FH];(repeat' split)<;>simp)
   ·have e:((([]:List Int)++if decide (0<k / w)=true then[k-w]else[])++if decide (0<k % w)=true then[k-1]else[])=(([]:List Int)++if decide (0<k / w)=true then[k-w]else[])++[k-1]:=(by rw[Fl h1]);refine⟨rfl,?_⟩;rw[c8,e];simp only[EK,Fe,FY,FA]
  ·have e:((([]:List Int)++if decide (0<k / w)=true then[k-w]else[])++if decide (0<k % w)=true then[k-1]else[])=(([]:List Int)++if decide (0<k / w)=true then[k-w]else[]):=(by rw[Fb h1,E2]);refine⟨rfl,?_⟩;rw[e]<;>rfl
 rintro σ' H' ⟨rfl,rfl⟩;refine⟨fun σ' H'=>σ'=[some (.int w),some (.int h),some (.int k),some (.ref l)]/\H'=upd H l (.lst ((((([]:List Int)++if decide (0<k / w)=true then[k-w]else[])++if decide (0<k % w)=true then[k-1]else[])++if decide (k % w<w-1)=true then[k+1]else[]).map V.int)),?_,?_⟩
 ·refine dW ?_;intro kD3;refine⟨_,rfl,_,rfl,_,_,rfl,rfl,hw.1,_,rfl,_,_,rfl,rfl,_,_,rfl,rfl,_,rfl,?_⟩;refine aT (fun h1=>?_) (fun h1=>?_)
  ·refine⟨_,rfl,.inl ⟨rfl,_,SqL.of ag⟩,_,rfl,_,_,rfl,rfl,l,_,_,rfl,rfl,ag,?_,?_⟩
   ·exact aM (by simp only[Ew,EC,FH];(repeat' split)<;>simp)
   ·have e:(((([]:List Int)++if decide (0<k / w)=true then[k-w]else[])++if decide (0<k % w)=true then[k-1]else[])++if decide (k % w<w-1)=true then[k+1]else[])=((([]:List Int)++if decide (0<k / w)=true then[k-w]else[])++if decide (0<k % w)=true then[k-1]else[])++[k+1]:=(by rw[Fl h1]);refine⟨rfl,?_⟩;rw[c8,e];simp only[EK,Fe,FY,FA]
  ·have e:(((([]:List Int)++if decide (0<k / w)=true then[k-w]else[])++if decide (0<k % w)=true then[k-1]else[])++if decide (k % w<w-1)=true then[k+1]else[])=((([]:List Int)++if decide (0<k / w)=true then[k-w]else[])++if decide (0<k % w)=true then[k-1]else[]):=(by rw[Fb h1,E2]);refine⟨rfl,?_⟩;rw[e]<;>rfl
 rintro σ' H' ⟨rfl,rfl⟩;refine⟨fun σ' H'=>σ'=[some (.int w),some (.int h),some (.int k),some (.ref l)]/\H'=upd H l (.lst (((((([]:List Int)++if decide (0<k / w)=true then[k-w]else[])++if decide (0<k % w)=true then[k-1]else[])++if decide (k % w<w-1)=true then[k+1]else[])++if decide (k / w<h-1)=true then[k+w]else[]).map V.int)),?_,?_⟩
 ·refine dW ?_;intro kD4;refine⟨_,rfl,_,rfl,_,_,rfl,rfl,hw,_,rfl,_,_,rfl,rfl,_,_,rfl,rfl,_,rfl,?_⟩;refine aT (fun h1=>?_) (fun h1=>?_)
  ·refine⟨_,rfl,.inl ⟨rfl,_,SqL.of ag⟩,_,rfl,_,rfl,_,_,rfl,rfl,l,_,_,rfl,rfl,ag,?_,?_⟩
   ·exact aM (by simp only[Ew,EC,FH];(repeat' split)<;>simp)
   ·have e:((((([]:List Int)++if decide (0<k / w)=true then[k-w]else[])++if decide (0<k % w)=true then[k-1]else[])++if decide (k % w<w-1)=true then[k+1]else[])++if decide (k / w<h-1)=true then[k+w]else[])=(((([]:List Int)++if decide (0<k / w)=true then[k-w]else[])++if decide (0<k % w)=true then[k-1]else[])++if decide (k % w<w-1)=true then[k+1]else[])++[k+w]:=(by rw[Fl h1]);refine⟨rfl,?_⟩;rw[c8,e];simp only[EK,Fe,FY,FA]
  ·have e:((((([]:List Int)++if decide (0<k / w)=true then[k-w]else[])++if decide (0<k % w)=true then[k-1]else[])++if decide (k % w<w-1)=true then[k+1]else[])++if decide (k / w<h-1)=true then[k+w]else[])=(((([]:List Int)++if decide (0<k / w)=true then[k-w]else[])++if decide (0<k % w)=true then[k-1]else[])++if decide (k % w<w-1)=true then[k+1]else[]):=(by rw[Fb h1,E2]);refine⟨rfl,?_⟩;rw[e]<;>rfl
 rintro σ' H' ⟨rfl,rfl⟩;refine⟨_,rfl,?_⟩;simp only[FA,FQ];exact q'
def mJ(K:Frag):Sp:=fun vs H Q _=>∃(z:Int)(c n:Nat),vs=[.int z,.int c,.int n]/\0<n/\c<=1000/\∀k:Nat,k<n->Q (.int k) H
variable(av:Df P w K mg base 1 "_law_pick" ["_law_cell","_law_salt","_law_many"] (mJ K))
theorem mR:ay ["_law_cell","_law_salt","_law_many","_law_one"] ["_law_cell","_law_salt","_law_many"] (ao (top 83)):=by trivial
include B in
theorem tU(T:Tx K mg "_law_pick" (top 83) ["_law_cell","_law_salt","_law_many"]):Df P w K mg base 1 "_law_pick" ["_law_cell","_law_salt","_law_many"] (mJ K):=by
 refine T.df mR (by rintro _ _ _ _ ⟨z,c,n,rfl,hn,hc,q⟩;rfl) ?_;rintro f _ A _ s H _ Q E hr ⟨z,c,n,rfl,hn,hc,q⟩;refine bq ?_;intro kX;refine ar 1 (ai (aw (aj aY (aj aY (aj bN (pv 3) (aj bf (pv 3) (pv 1))) ae) (pv 2)))) ?_;intro kR1 pR1;refine⟨_,(ah (az (i:=3) mR.nd rfl (by trivial) (aj aY (aj bf (aj bN (aj aY (pv 0) ae) (aj bf ae (aj bN ae (pv 1)))) (aj bN ae (pv 1))) ae)) pR1),?_⟩;have a0:=E5 z (show(1000000007:Int)≠0 by decide);have a1:=E3 z (show(0:Int)<1000000007 by decide);refine⟨_,rfl,_,_,rfl,rfl,(by show(0:Int)<_;decide),_,rfl,_,_,rfl,rfl,.inl ⟨by decide,by decide⟩,_,_,rfl,rfl,_,_,rfl,rfl,.inl ⟨by omega,by omega⟩,_,rfl,_,_,rfl,rfl,.inl ⟨by decide,by decide⟩,_,_,rfl,rfl,_,_,rfl,rfl,(by show(0:Int)<_;decide),?_⟩;have b0:=E5 (z % 1000000007*(48271+2*(c:Int))+7919*(c:Int)) (show(1000003:Int)≠0 by decide);have b1:=E3 (z % 1000000007*(48271+2*(c:Int))+7919*(c:Int)) (show(0:Int)<1000003 by decide);refine⟨_,rfl,_,rfl,_,rfl,_,_,rfl,rfl,_,_,rfl,rfl,.inl ⟨by omega,by omega⟩,_,_,rfl,rfl,(by show(0:Int)<_;decide),_,rfl,_,_,rfl,rfl,by omega,?_⟩;generalize (z % 1000000007*(48271+2*(c:Int))+7919*(c:Int)) % 1000003*((z % 1000000007*(48271+2*(c:Int))+7919*(c:Int)) % 1000003+(c:Int)) % 999983=y;have d0:=E5 y (show(n:Int)≠0 by omega);have d1:=E3 y (show(0:Int)<(n:Int) by omega);have e:y % (n:Int)=((y % (n:Int)).toNat:Int):=by omega
 show Q (.int (y % (n:Int))) H;rw[e];exact q _ (by omega)
def nP(K:Frag):Sp:=fun vs H Q _=>∃(t b:Int),vs=[.int t,.int b]/\0<b/\0<t/\Bd 8000 b/\∀l,H l=none->Q (.ref l) (upd H l (.tup [.int (frT t b),.int (frB t b)]))
variable(eV:Df P w K mg base 1 "_law_low" ["_law_top","_law_bottom"] (nP K))
theorem eR:ay ["_law_top","_law_bottom","_law_one","_law_other","_law_rest"] ["_law_top","_law_bottom"] (ao (top 84)):=by trivial
include B in
theorem vz(T:Tx K mg "_law_low" (top 84) ["_law_top","_law_bottom"]):Df P w K mg base 1 "_law_low" ["_law_top","_law_bottom"] (nP K):=by
 refine T.df eR (by rintro _ _ _ _ ⟨t,b,rfl,hb,ht,bd,q⟩;rfl) ?_;rintro f _ A _ s H _ Q E hr ⟨t,b,rfl,hb,ht,bd,q⟩;refine bq ?_;intro kX;refine ar 3 (ai (aw (bu (aa (aj oy (pv 0) (pv 2)) (aa (aj oy (pv 1) (pv 2)) af))))) ?_;intro kR3 pR3;refine bU 2 2 (ai (az (i:=3) eR.nd rfl (by trivial) (pv 4))) ?_;intro kS2x2 pS2x2;refine bU 2 1 (ah (az (i:=2) eR.nd rfl (by trivial) (pv 3)) pS2x2) ?_;intro kS2x1 pS2x1;refine bU 2 0 (ah (az (i:=4) eR.nd rfl (by trivial) (aj wN (pv 2) (pv 3))) pS2x1) ?_;intro kS2x0 pS2x0;refine ar 2 (ah (jd FG (aC kR (pv 3) ae (aA _)) pS2x0) pR3) ?_;intro kR2 pR2;refine ar 1 (ah (az (i:=3) eR.nd rfl (by trivial) (pv 1)) pR2) ?_;intro kR1 pR1;refine⟨_,(ah (az (i:=2) eR.nd rfl (by trivial) (pv 0)) pR1),?_⟩;have g:=jk (t:=t) hb;have lg:((Int.gcd t b:Nat):Int).natAbs.log2<9000:=(Bd.gcd (t:=t) bd (by omega)).log2 (by decide);refine⟨_,rfl,_,rfl,?_⟩;refine⟨fun m σ H2=>∃(f r:Int)(o:Option V),σ=[some (.int t),some (.int b),some (.int f),some (.int r),o]/\H2=H/\Int.gcd f r=Int.gcd t b/\0<=f/\0<=r/\m=r.natAbs,⟨_,_,_,_,rfl,rfl,rfl,by omega,by omega,rfl⟩,?_⟩;rintro m σ H2 ⟨f,r,o,rfl,rfl,hg,hf,hr,rfl⟩;refine⟨_,rfl,rfl,_,rfl,?_⟩;refine aT (fun h1=>?_) (fun h1=>?_)
 ·have h1':r≠0:=by
   intro z;rw[z]at h1
   revert h1
   decide
  refine⟨fun σ' H'=>∃o',σ'=[some (.int t),some (.int b),some (.int r),some (.int (f.fmod r)),o']/\H'=H2,?_,?_⟩
  ·rintro σ' H' ⟨o',rfl,rfl⟩;exact⟨_,uG f h1',r,f.fmod r,_,rfl,rfl,(uF f r).trans hg,hr,Int.fmod_nonneg_of_pos f (by omega),rfl⟩
  ·exact⟨_,rfl,_,rfl,_,_,rfl,rfl,h1',_,rfl,_,rfl,_,rfl,rfl⟩
 ·have h1':r=0:=Decidable.byContradiction fun z=>h1 (by simp[z]);subst h1';have ef:f=(Int.gcd t b:Int):=by rw[<-hg];simp;omega
  subst ef;refine⟨_,rfl,_,rfl,_,_,rfl,rfl,⟨g,lg⟩,_,rfl,_,rfl,_,_,rfl,rfl,⟨g,lg⟩,aK rfl,fun l hl=>?_⟩;exact q l hl
def iG(K:Frag):Sp:=fun vs H Q _=>∃(k:Nat)(w:Int),vs=[.int (k:Nat),.int w]/\k<13/\Q (.str (cC w k)) H
variable(bg:Df P w K mg base 1 "_law_any_name" ["_law_k","_law_way"] (iG K))
theorem iI:ay ["_law_k","_law_way","_law_at"] ["_law_k","_law_way"] (ao (top 85)):=by trivial
include B in
theorem nh(T:Tx K mg "_law_any_name" (top 85) ["_law_k","_law_way"]):Df P w K mg base 1 "_law_any_name" ["_law_k","_law_way"] (iG K):=by
 refine T.df iI (by rintro _ _ _ _ ⟨k,w,rfl,hk,q⟩;rfl) ?_;rintro f _ A _ s H _ Q E hr ⟨k,w,rfl,hk,q⟩;refine bq ?_;intro kX;refine ar 2 (ai (aw (aj oz (aj oz (eG yI aO cQ (cB (pv 2))) (aF rL aO (pv 0) (fun _ _=>rfl))) (eG yI aO (cB (aj bf (pv 2) ae)) cQ)))) ?_;intro kR2 pR2;refine ar 1 (ah (az (i:=2) iI.nd rfl (by trivial) (aj aY (aj cb (pv 1) ae) ae)) pR2) ?_;intro kR1 pR1;refine⟨_,(ah (aS (aC aV (aj aY (pv 1) ae) ae (aA _)) (ai (aw (aF rL aO (pv 0) (fun _ _=>rfl)))) aD) pR1),?_⟩;have a0:=E5 (w / 3) (show(8:Int)≠0 by decide);have a1:=E3 (w / 3) (show(0:Int)<8 by decide);unfold cC nmP at q;have at_:atI (Str.ofString "abcdefghijklm").cps.toList ((k:Nat):Int)=some (97+k):=by
  have:∀k∈List.range 13,atI (Str.ofString "abcdefghijklm").cps.toList ((k:Nat):Int)=some (97+k):=by decide+kernel
  exact this k (FC.mpr hk)
 refine⟨_,rfl,_,_,rfl,rfl,(by show(0:Int)<_;decide),rfl,_,rfl,?_⟩;refine aT (fun h1=>?_) (fun h1=>?_)
 ·have e:w % 3=0:=V.int.inj (EA h1);rw[Ey e,Fl rfl]at q;exact⟨_,rfl,_,_,_,rfl,rfl,by decide+kernel,at_,q⟩
 ·have e:¬w % 3=0:=fun z=>h1 (Ey (by show V.int (w % 3)=V.int 0;rw[z]));rw[EI e,Fb EE]at q;refine⟨_,rfl,_,_,rfl,rfl,⟨by decide,by decide⟩,_,_,rfl,rfl,(by show(0:Int)<_;decide),?_⟩;have l5:(Str.ofString "landmark").length<=sizeLine:=by decide+kernel
  have sl:∀lo hi,(Txt.slice (Str.ofString "landmark") lo hi).length<=8:=fun lo hi=>by have:=Txt.slice_le (Str.ofString "landmark") lo hi;have e5:(Str.ofString "landmark").length=8:=(by decide+kernel);omega
  have z7:sizeLine>=1000:=by decide
  have c1:(⟨#[97+k]⟩:Str).length=1:=rfl;have s1:=sl none (some (w / 3 % 8));have s2:=sl (some (w / 3 % 8+1)) none;refine⟨_,rfl,_,rfl,_,rfl,l5,_,rfl,_,_,_,rfl,rfl,by decide+kernel,at_,_,_,rfl,rfl,by rw[c1];omega,?_⟩;refine⟨_,rfl,_,_,rfl,rfl,_,rfl,_,rfl,l5,_,_,rfl,rfl,?_,q⟩;rw[Bw,c1];omega
def pT(K:Frag):Sp:=fun vs H Q _=>∃(c:Nat),vs=[.int c]/\c<2^64/\∀l,H l=none->Q (.ref l) (upd H l (.lst ((gp c).map fun k:Nat=>V.int (k:Int))))
variable(lJ:Df P w K mg base 2 "listed" ["cells"] (pT K))
theorem xH:ay ["cells"] ["cells"] (ao (top 11)):=by trivial
include B jP in
theorem xY(T:Tx K mg "listed" (top 11) ["cells"]):Df P w K mg base 2 "listed" ["cells"] (pT K):=by
 refine T.df xH (by rintro _ _ _ _ ⟨c,rfl,hc,q⟩;rfl) ?_;rintro f _ A _ s H _ Q E hr ⟨c,rfl,hc,q⟩;refine⟨_,(ai (aw (cV ["cell"] [("cells",0)] (jr _ ["cells"]) rfl (by rfl) rfl (by trivial) (by trivial) (bT (by rfl)) (fC (by rfl)) (mC ⟨rfl,rfl⟩ mN) (mC rfl mN) (dZ (by decide)) (eT (by rfl) B.range (aa (vx PySem.F.plainAttrs_int PySem.F.slot_int_bit_length PySem.F.type_int_bit_length wU (pv 0)) af)) (fun _ _ _ _=>bJ (i:=0) (show(["cell","cells"]:List Str).Nodup by trivial) rfl (Or.inl rfl) (Or.inr rfl)) (fun _ _ _ _=>yX (cn (au jP hr (aa (pv 1) (aa (pv 0) af))))) (fun _ _ _ _=>(pv 0))))),?_⟩;have hb:=bits_le hc;refine⟨_,rfl,rfl,_,rfl,rfl,_,rfl,by omega,by omega,fun D hD=>?_⟩;refine pj (fun i acc H2=>H2=upd H D (.lst acc)/\acc=((List.range i).filter c.testBit).map fun k:Nat=>V.int (k:Int)) ⟨rfl,rfl⟩ ?_ ?_
 ·rintro i acc H2 hi ⟨rfl,rfl⟩;refine iL ?_;intro kq1 kr1;have hi':i<Builtin.Int.intBits (c:Int):=by simpa using hi
  refine⟨_,rfl,_,rfl,c,_,rfl,_,rfl,?_⟩;rw[xN];refine aT (fun hb=>?_) (fun hb=>?_)
  ·refine⟨_,rfl,ag,?_,?_,?_⟩
   ·rw[Ew];exact Nat.lt_of_le_of_lt (EX (List.length_filter_le _ _) (by rw[List.length_range];omega)) (aM (by decide:64<=1000))
   ·rw[c8]
   ·rw[Gg,List.filter_append,EK];simp[hb]
  ·refine⟨rfl,?_⟩;rw[Gg,List.filter_append,EK];simp[hb]
 ·rintro acc H2 ⟨rfl,rfl⟩;have e:((Builtin.Int.intBits (c:Int):Nat):Int).toNat=Builtin.Int.intBits (c:Int):=by simp
  rw[e,v8 hc];exact q D hD
def pV(K:Frag):Sp:=fun vs H Q _=>∃(a:Addr)(w h k:Int),vs=[.ref a,.int k]/\SqT K H a [.int w,.int h]/\(0<w/\w<1073741824)/\∀l,H l=none->Q (.ref l) (upd H l (.lst ((wR w h k).map V.int)))
variable(lO:Df P w K mg base 2 "beside" ["floor","cell"] (pV K))
theorem lZ:ay ["floor","cell","wide","found"] ["floor","cell"] (ao (top 15)):=by trivial
include B jo fz in
theorem x2(T:Tx K mg "beside" (top 15) ["floor","cell"]):Df P w K mg base 2 "beside" ["floor","cell"] (pV K):=by
 refine T.df lZ (by rintro _ _ _ _ ⟨a,w,h,k,rfl,hT,hw,q⟩;rfl) ?_;rintro f _ A _ s H _ Q E hr ⟨a,w,h,k,rfl,hT,hw,q⟩;refine bq ?_;intro kX;refine ar 6 (ai (aw (pv 3))) ?_;intro kR6 pR6;refine ar 5 (bj (aS (aC ow (au jo hr (aa (pv 0) (aa (pv 1) af))) (aj aZ (aF aG (pv 0) ae (fun _ _=>rfl)) ae) (aA _)) (ai (de (hX EU EW EV bY (pv 3) (aa (aj bf (pv 1) (pv 2)) af)))) aD) pR6) ?_;intro kR5 pR5;refine ar 4 (bj (aS (aC ow (au fz hr (aa (pv 0) (aa (pv 1) af))) (aj aZ (pv 2) ae) (aA _)) (ai (de (hX EU EW EV bY (pv 3) (aa (aj bf (pv 1) ae) af)))) aD) pR5) ?_;intro kR4 pR4;refine ar 3 (bj (aS (aC mU (au fz hr (aa (pv 0) (aa (pv 1) af))) ae (aA _)) (ai (de (hX EU EW EV bY (pv 3) (aa (aj aZ (pv 1) ae) af)))) aD) pR4) ?_;intro kR3 pR3;refine ar 2 (bj (aS (aC mU (au jo hr (aa (pv 0) (aa (pv 1) af))) ae (aA _)) (ai (de (hX EU EW EV bY (pv 3) (aa (aj aZ (pv 1) (pv 2)) af)))) aD) pR3) ?_;intro kR2 pR2;refine ar 1 (ah (az (i:=3) lZ.nd rfl (by trivial) (bK af)) pR2) ?_;intro kR1 pR1;refine⟨_,(ah (az (i:=2) lZ.nd rfl (by trivial) (aF aG (pv 0) ae (fun _ _=>rfl))) pR1),?_⟩;refine⟨_,rfl,a,_,_,_,rfl,rfl,hT,rfl,EH _,fun l hl=>?_⟩;have hT':∀o,SqT K (upd H l o) a [.int w,.int h]:=fun o=>(aq.upd hl).tup hT;have q':=q l hl;refine⟨fun σ' H'=>σ'=[some (.ref a),some (.int k),some (.int w),some (.ref l)]/\H'=upd H l (.lst ((([]:List Int)++if decide (0<k / w)=true then[k-w]else[]).map V.int)),?_,?_⟩
 ·refine dW ?_;intro kD1;refine⟨_,rfl,_,rfl,a,w,h,k,rfl,hT' _,hw,_,_,rfl,rfl,_,rfl,?_⟩;refine aT (fun h1=>?_) (fun h1=>?_)
  ·refine⟨_,rfl,.inl ⟨rfl,_,SqL.of ag⟩,_,rfl,_,rfl,_,_,rfl,rfl,l,_,_,rfl,rfl,ag,?_,?_⟩
   ·exact aM (by simp only[Ew,EC,FH];(repeat' split)<;>simp)
   ·have e:(([]:List Int)++if decide (0<k / w)=true then[k-w]else[])=([]:List Int)++[k-w]:=(by rw[Fl h1]);refine⟨rfl,?_⟩;rw[c8,e];simp only[EK,Fe,FY,FA]
  ·have e:(([]:List Int)++if decide (0<k / w)=true then[k-w]else[])=([]:List Int):=(by rw[Fb h1,E2]);refine⟨rfl,?_⟩;rw[e]<;>rfl
 rintro σ' H' ⟨rfl,rfl⟩;refine⟨fun σ' H'=>σ'=[some (.ref a),some (.int k),some (.int w),some (.ref l)]/\H'=upd H l (.lst (((([]:List Int)++if decide (0<k / w)=true then[k-w]else[])++if decide (0<k % w)=true then[k-1]else[]).map V.int)),?_,?_⟩
 ·refine dW ?_;intro kD2;refine⟨_,rfl,_,rfl,a,w,h,k,rfl,hT' _,hw,_,_,rfl,rfl,_,rfl,?_⟩;refine aT (fun h1=>?_) (fun h1=>?_)
  ·refine⟨_,rfl,.inl ⟨rfl,_,SqL.of ag⟩,_,rfl,_,_,rfl,rfl,l,_,_,rfl,rfl,ag,?_,?_⟩
   ·exact aM (by simp only[Ew,EC,FH];(repeat' split)<;>simp)
   ·have e:((([]:List Int)++if decide (0<k / w)=true then[k-w]else[])++if decide (0<k % w)=true then[k-1]else[])=(([]:List Int)++if decide (0<k / w)=true then[k-w]else[])++[k-1]:=(by rw[Fl h1]);refine⟨rfl,?_⟩;rw[c8,e];simp only[EK,Fe,FY,FA]
  ·have e:((([]:List Int)++if decide (0<k / w)=true then[k-w]else[])++if decide (0<k % w)=true then[k-1]else[])=(([]:List Int)++if decide (0<k / w)=true then[k-w]else[]):=(by rw[Fb h1,E2]);refine⟨rfl,?_⟩;rw[e]<;>rfl
 rintro σ' H' ⟨rfl,rfl⟩;refine⟨fun σ' H'=>σ'=[some (.ref a),some (.int k),some (.int w),some (.ref l)]/\H'=upd H l (.lst ((((([]:List Int)++if decide (0<k / w)=true then[k-w]else[])++if decide (0<k % w)=true then[k-1]else[])++if decide (k % w<w-1)=true then[k+1]else[]).map V.int)),?_,?_⟩
 ·refine dW ?_;intro kD3;refine⟨_,rfl,_,rfl,a,w,h,k,rfl,hT' _,hw,_,rfl,_,_,rfl,rfl,_,_,rfl,rfl,_,rfl,?_⟩;refine aT (fun h1=>?_) (fun h1=>?_)
  ·refine⟨_,rfl,.inl ⟨rfl,_,SqL.of ag⟩,_,rfl,_,_,rfl,rfl,l,_,_,rfl,rfl,ag,?_,?_⟩
   ·exact aM (by simp only[Ew,EC,FH];(repeat' split)<;>simp)
   ·have e:(((([]:List Int)++if decide (0<k / w)=true then[k-w]else[])++if decide (0<k % w)=true then[k-1]else[])++if decide (k % w<w-1)=true then[k+1]else[])=((([]:List Int)++if decide (0<k / w)=true then[k-w]else[])++if decide (0<k % w)=true then[k-1]else[])++[k+1]:=(by rw[Fl h1]);refine⟨rfl,?_⟩;rw[c8,e];simp only[EK,Fe,FY,FA]
  ·have e:(((([]:List Int)++if decide (0<k / w)=true then[k-w]else[])++if decide (0<k % w)=true then[k-1]else[])++if decide (k % w<w-1)=true then[k+1]else[])=((([]:List Int)++if decide (0<k / w)=true then[k-w]else[])++if decide (0<k % w)=true then[k-1]else[]):=(by rw[Fb h1,E2]);refine⟨rfl,?_⟩;rw[e]<;>rfl
 rintro σ' H' ⟨rfl,rfl⟩;refine⟨fun σ' H'=>σ'=[some (.ref a),some (.int k),some (.int w),some (.ref l)]/\H'=upd H l (.lst (((((([]:List Int)++if decide (0<k / w)=true then[k-w]else[])++if decide (0<k % w)=true then[k-1]else[])++if decide (k % w<w-1)=true then[k+1]else[])++if decide (k / w<h-1)=true then[k+w]else[]).map V.int)),?_,?_⟩
 ·refine dW ?_;intro kD4;refine⟨_,rfl,_,rfl,a,w,h,k,rfl,hT' _,hw,_,rfl,a,_,_,_,rfl,rfl,hT' _,rfl,_,_,rfl,rfl,_,_,rfl,rfl,_,rfl,?_⟩;refine aT (fun h1=>?_) (fun h1=>?_)
  ·refine⟨_,rfl,.inl ⟨rfl,_,SqL.of ag⟩,_,rfl,_,rfl,_,_,rfl,rfl,l,_,_,rfl,rfl,ag,?_,?_⟩
   ·exact aM (by simp only[Ew,EC,FH];(repeat' split)<;>simp)
   ·have e:((((([]:List Int)++if decide (0<k / w)=true then[k-w]else[])++if decide (0<k % w)=true then[k-1]else[])++if decide (k % w<w-1)=true then[k+1]else[])++if decide (k / w<h-1)=true then[k+w]else[])=(((([]:List Int)++if decide (0<k / w)=true then[k-w]else[])++if decide (0<k % w)=true then[k-1]else[])++if decide (k % w<w-1)=true then[k+1]else[])++[k+w]:=(by rw[Fl h1]);refine⟨rfl,?_⟩;rw[c8,e];simp only[EK,Fe,FY,FA]
  ·have e:((((([]:List Int)++if decide (0<k / w)=true then[k-w]else[])++if decide (0<k % w)=true then[k-1]else[])++if decide (k % w<w-1)=true then[k+1]else[])++if decide (k / w<h-1)=true then[k+w]else[])=(((([]:List Int)++if decide (0<k / w)=true then[k-w]else[])++if decide (0<k % w)=true then[k-1]else[])++if decide (k % w<w-1)=true then[k+1]else[]):=(by rw[Fb h1,E2]);refine⟨rfl,?_⟩;rw[e]<;>rfl
 rintro σ' H' ⟨rfl,rfl⟩;refine⟨_,rfl,?_⟩;simp only[FA,FQ];exact q'
def fZ(K:Frag):Sp:=fun vs H Q _=>∃(t b:Int),vs=[.int t,.int b]/\b≠0/\Bd 8000 b/\∀l p q,we t b p q->H l=none->Q (.ref l) (upd H l (.tup [.int p,.int q]))
variable(bM:Df P w K mg base 2 "in_lowest_terms" ["top","bottom"] (fZ K))
theorem d8:ay ["top","bottom","divisor"] ["top","bottom"] (ao (top 20)):=by trivial
include B dU in
theorem jW(T:Tx K mg "in_lowest_terms" (top 20) ["top","bottom"]):Df P w K mg base 2 "in_lowest_terms" ["top","bottom"] (fZ K):=by
 refine T.df d8 (by rintro _ _ _ _ ⟨t,b,rfl,hb,bd,q⟩;rfl) ?_;rintro f _ A _ s H _ Q E hr ⟨t,b,rfl,hb,bd,q⟩;refine bq ?_;intro kX;refine ar 2 (ai (aw (bu (aa (aj qa (pv 0) (pv 2)) (aa (aj qa (pv 1) (pv 2)) af))))) ?_;intro kR2 pR2;refine ar 1 (bj (aS (aC ow (pv 1) ae (aA _)) (ai (az (i:=2) d8.nd rfl (by trivial) (iK gV (pv 2)))) aD) pR2) ?_;intro kR1 pR1;refine⟨_,(ah (az (i:=2) d8.nd rfl (by trivial) (au dU hr (aa (pv 0) (aa (pv 1) af)))) pR1),?_⟩;have hm0:(if b<0 then-(Int.gcd t b:Int)else(Int.gcd t b:Int))≠0:=by have:=Int.gcd_pos_of_ne_zero_right t hb;split<;>omega
 have bdm:Bd 8999 (if b<0 then-(Int.gcd t b:Int)else(Int.gcd t b:Int)):=by
  have:=(Bd.gcd (t:=t) bd hb).mono (n:=8999) (by decide);split
  ·exact this.neg
  ·exact this
 refine⟨_,rfl,_,rfl,t,b,rfl,?_⟩;refine⟨fun σ' H'=>σ'=[some (.int t),some (.int b),some (.int (if b<0 then-(Int.gcd t b:Int)else(Int.gcd t b:Int)))]/\H'=H,?_,?_⟩
 ·refine⟨_,rfl,_,_,rfl,rfl,_,rfl,?_⟩;refine aT (fun h1=>?_) (fun h1=>?_)
  ·have h1':b<0:=EA h1;rw[Fl h1'];exact⟨_,rfl,_,rfl,rfl,rfl⟩
  ·have h1':¬b<0:=fun z=>h1 (Ey z);rw[Fb h1'];exact⟨rfl,rfl⟩
 ·rintro σ' H' ⟨rfl,rfl⟩;exact⟨_,rfl,_,rfl,_,_,rfl,rfl,⟨hm0,bdm⟩,_,rfl,_,rfl,_,_,rfl,rfl,⟨hm0,bdm⟩,aK rfl,fun l hl=>q l _ _ (ye hb rfl) hl⟩
def ko(K:Frag):Sp:=fun vs H Q _=>∃(v:V)(d:PyData)(a b:Int),vs=[v,.int a,.int b]/\TD H d v/\Q (.bl (wi a b d)) H
variable(aI:Df P w K mg base 2 "is_within" ["thing","least","greatest"] (ko K))
theorem qD:ay ["thing","least","greatest"] ["thing","least","greatest"] (ao (top 43)):=by trivial
include B cN in
theorem qZ(T:Tx K mg "is_within" (top 43) ["thing","least","greatest"]):Df P w K mg base 2 "is_within" ["thing","least","greatest"] (ko K):=by
 refine T.df qD (by rintro _ _ _ _ ⟨v,d,a,b,rfl,hd,q⟩;rfl) ?_;rintro f _ A _ s H _ Q E hr ⟨v,d,a,b,rfl,hd,q⟩;refine⟨_,(ai (aw (cy (au cN hr (aa (pv 0) af)) (bQ (oq mT mT (pv 1) (pv 0) (pv 2)))))),?_⟩;refine⟨_,rfl,v,_,rfl,hd.ty,_,rfl,?_⟩;cases hd with
 |int i=>
  refine fL ⟨_,rfl,_,rfl,_,_,rfl,rfl,_,rfl,?_⟩;have e:wi a b (.int i)=(decide (a<=i)&&decide (i<=b)):=rfl;rw[e]at q;refine aT (fun z=>?_) (fun z=>?_)
  ·rw[z,E1]at q;exact⟨_,rfl,_,_,rfl,rfl,q⟩
  ·rw[Fm]at z;rw[z,EO]at q
   first|exact⟨_,rfl,q⟩|exact q
 |_=>exact bP q
def iU(K:Frag):Sp:=spG K .sgn
variable(ff:Df P w K mg base 2 "good_signed" ["floor","row","place"] (iU K))
theorem i9:ay ["floor","row","place","signed"] ["floor","row","place"] (ao (top 54)):=by trivial
include B dG ck cS ig in
theorem oG(T:Tx K mg "good_signed" (top 54) ["floor","row","place"]):Df P w K mg base 2 "good_signed" ["floor","row","place"] (iU K):=by
 refine T.df i9 (by rintro _ _ _ _ ⟨fl,r,w,h,p,ds,rfl,hF,⟨hw,hw8⟩,⟨hh,hh8⟩,rr,⟨p1,pl⟩,pre,q⟩;rfl) ?_;rintro f _ A _ s H _ Q E hr ⟨fl,r,w,h,p,ds,rfl,hF,⟨hw,hw8⟩,⟨hh,hh8⟩,rr,⟨p1,pl⟩,pre,q⟩;refine bq ?_;intro kX;refine ar 2 (ai (aw (cy (aP (jA rfl) (by rfl) ig (by trivial) (aa (cV ["thing"] [] (jr _ []) rfl (by rfl) rfl (by trivial) (by trivial) (bT (by rfl)) (fC (by rfl)) mN mN (dZ (by decide)) (qT (pv 3)) (fun _ _ _ _=>bJ (i:=0) (show(["thing"]:List Str).Nodup by trivial) rfl (Or.inl rfl) (Or.inr rfl)) (fun _ _ _ _=>dE) (fun _ _ _ _=>(au ck hr (aa (pv 0) af)))) af)) (bQ (au dG hr (aa (pv 3) af)))))) ?_;intro kR2 pR2;refine ar 1 (ah (aS ((iJ (cw (cn (aP cL (by rfl) B.isinstance Fn (aa (pv 3) (aa (dh (x:="tuple") (v:=.ty "tuple") (by rfl) B.tuple boot_tuple rfl) af))))) (ip (aC mU (aP br (by rfl) B.len Fv (aa (pv 3) af)) (bw (v:=.int 12) (by rfl) cS.choose_spec ⟨_,rfl⟩) (aA _)))).pt) (ai (aw eI)) aD) pR2) ?_;intro kR1 pR1;refine⟨_,(ah (az (i:=3) i9.nd rfl (by trivial) (aF aG (pv 1) (pv 2) (fun _ _=>rfl))) pR1),?_⟩;obtain⟨vs,v,hr1,ev,td,dep⟩:=rr.at pl;refine⟨_,rfl,_,rfl,r,_,_,_,rfl,rfl,SqT.of hr1,aB ev,?_⟩;have e:lkB w h ds p .sgn=jR (thg ds p):=rfl;rw[e]at q;generalize thg ds p=d at td dep q;refine⟨_,rfl,_,_,_,_,rfl,td.ty,A2 K d,_,rfl,?_⟩;cases td with
 | @tup b us es hb z=>
  have lz:=z.len;have e2:jR (.tuple es)=(decide (es.length<=12)&&(es.all nmD&&rise (es.map qy))):=rfl;rw[e2]at q;refine bP ⟨_,rfl,b,us,rfl,.inr (SqT.of hb),_,_,rfl,rfl,_,rfl,?_⟩;refine aT (fun y=>?_) (fun y=>?_)
  ·have y':=EA y;rw[EI (show ¬es.length<=12 by omega),EO]at q;exact q _ (aq.refl _)
  ·have y':¬(12:Int)<(us.length:Int):=fun c=>y (Ey c);rw[Ey (show es.length<=12 by omega),E1]at q;refine⟨_,rfl,b,rfl,⟨_,SqT.of hb⟩,fun D hD=>?_⟩;have deps:∀x∈es,x.depth<=4:=fun x hx=>by
    obtain⟨j,hj⟩:=List.getElem?_of_mem hx;have a1:=mF hj;have a2:PyData.depthAll es+1<=4:=dep;omega
   refine xj (K:=K) (a:=b) (xs:=us) (fun i acc H6=>aq H H6/\H6 D=some (.lst acc)/\acc=((es.take i).map nmD).map V.bl) ⟨aq.upd hD,ag,rfl⟩ (fun i acc H6 _ z=>SqT.of (z.1 _ _ hb)) ?_ ?_
   ·rintro i v acc H6 hi ⟨s6,h6,rfl⟩;refine iL ?_;intro kq1 kr1;obtain⟨x,hx,tx⟩:=z.of hi;refine⟨_,rfl,v,x,rfl,(tx.same s6).thg (deps x (EY hx)),fun H7 s7=>?_⟩;have il:=(ED.mp hi).1;refine⟨s7 _ _ h6,aM (by rw[Ew,Ew,E9];omega),fun b5 o5 e5=>?_,ag,?_⟩
    ·rw[aN (fun z=>by rw[z,hD]at e5;cases e5)];exact s7 _ _ (s6 _ _ e5)
    ·rw[FD,hx,FN,EK,EK];rfl
   ·rintro acc H6 ⟨s6,h6,rfl⟩;rw[lz,FI]at h6;refine⟨D,es.map nmD,rfl,.inl h6,_,rfl,?_⟩;have ea:(es.map nmD).all id=es.all nmD:=(by rw[List.all_map];rfl);rw[ea];refine aT (fun y=>?_) (fun y=>?_)
    ·rw[y,E1]at q;have eu:=wQ z y;refine⟨_,rfl,b,es.map qy,rfl,.inr (by rw[<-eu];exact SqT.of (s6 _ _ hb)),by rw[Ew];omega,fun H7 s7=>q _ (s6.trans s7)⟩
    ·rw[Fm]at y;rw[y,EO]at q
     first|exact q _ s6|(rw[y];exact q _ s6)
 |_=>exact fL (q _ (aq.refl _))
def kG(K:Frag):Sp:=spG K .axis
variable(gU:Df P w K mg base 2 "good_axis" ["floor","row","place"] (kG K))
theorem qP:ay ["floor","row","place"] ["floor","row","place"] (ao (top 59)):=by trivial
include B dH qx in
theorem rz(T:Tx K mg "good_axis" (top 59) ["floor","row","place"]):Df P w K mg base 2 "good_axis" ["floor","row","place"] (kG K):=by obtain⟨pu_AXES,gu_AXES,tu_AXES⟩:=qx;refine T.df qP (by rintro _ _ _ _ ⟨fl,r,w,h,p,ds,rfl,hF,⟨hw,hw8⟩,⟨hh,hh8⟩,rr,⟨p1,pl⟩,pre,q⟩;rfl) ?_;rintro f _ A _ s H _ Q E hr ⟨fl,r,w,h,p,ds,rfl,hF,⟨hw,hw8⟩,⟨hh,hh8⟩,rr,⟨p1,pl⟩,pre,q⟩;refine⟨_,(ai (aw (au dH hr (aa (aF aG (pv 1) (pv 2) (fun _ _=>rfl)) (aa (bw (v:=.ref pu_AXES) (by rfl) gu_AXES rfl) af))))),?_⟩;obtain⟨vs,v,hr1,ev,td,dep⟩:=rr.at pl;exact⟨_,rfl,_,rfl,r,_,_,_,rfl,rfl,SqT.of hr1,aB ev,v,_,pu_AXES,["x","y"],rfl,td,tu_AXES _,q _ (aq.refl _)⟩
def kC(K:Frag):Sp:=spG K .name
variable(gR:Df P w K mg base 2 "good_name" ["floor","row","place"] (kC K))
theorem qL:ay ["floor","row","place"] ["floor","row","place"] (ao (top 61)):=by trivial
include B ck in
theorem rm(T:Tx K mg "good_name" (top 61) ["floor","row","place"]):Df P w K mg base 2 "good_name" ["floor","row","place"] (kC K):=by refine T.df qL (by rintro _ _ _ _ ⟨fl,r,w,h,p,ds,rfl,hF,⟨hw,hw8⟩,⟨hh,hh8⟩,rr,⟨p1,pl⟩,pre,q⟩;rfl) ?_;rintro f _ A _ s H _ Q E hr ⟨fl,r,w,h,p,ds,rfl,hF,⟨hw,hw8⟩,⟨hh,hh8⟩,rr,⟨p1,pl⟩,pre,q⟩;refine⟨_,(ai (aw (au ck hr (aa (aF aG (pv 1) (pv 2) (fun _ _=>rfl)) af)))),?_⟩;obtain⟨vs,v,hr1,ev,td,dep⟩:=rr.at pl;exact⟨_,rfl,_,rfl,r,_,_,_,rfl,rfl,SqT.of hr1,aB ev,v,_,rfl,td.thg dep,q⟩
def gb(K:Frag):Sp:=spG K .oname
variable(dw:Df P w K mg base 2 "good_other_name" ["floor","row","place"] (gb K))
theorem jS:ay ["floor","row","place"] ["floor","row","place"] (ao (top 62)):=by trivial
include B ck in
theorem jX(T:Tx K mg "good_other_name" (top 62) ["floor","row","place"]):Df P w K mg base 2 "good_other_name" ["floor","row","place"] (gb K):=by
 refine T.df jS (by rintro _ _ _ _ ⟨fl,r,w,h,p,ds,rfl,hF,⟨hw,hw8⟩,⟨hh,hh8⟩,rr,⟨p1,pl⟩,pre,q⟩;rfl) ?_;rintro f _ A _ s H _ Q E hr ⟨fl,r,w,h,p,ds,rfl,hF,⟨hw,hw8⟩,⟨hh,hh8⟩,rr,⟨p1,pl⟩,pre,q⟩;have hu:=hr.units;refine⟨_,(ai (aw (cy (au ck hr (aa (aF aG (pv 1) (pv 2) (fun _ _=>rfl)) af)) (bQ (ba (ou hu) (aF aG (pv 1) (pv 2) (fun _ _=>rfl)) (aF aG (pv 1) (aj aZ (pv 2) ae) (fun _ _=>rfl)) (aA _)))))),?_⟩;obtain⟨vs,v,hr1,ev,td,dep⟩:=rr.at pl;obtain⟨vs',v',hr1',ev',td',dep'⟩:=rr.at (show p-1<ds.length by omega);rw[hr1]at hr1';cases hr1';have e:lkB w h ds p .oname=(nmD (thg ds p)&& !PyData.eqv (thg ds p) (thg ds (p-1))):=rfl;refine⟨_,rfl,_,rfl,r,_,_,_,rfl,rfl,SqT.of hr1,aB ev,v,_,rfl,td.thg dep,fun H1 s1=>⟨_,rfl,?_⟩⟩;have hr1:=s1 _ _ hr1;replace td:=td.same s1;replace td':=td'.same s1;refine aT (fun z=>?_) (fun z=>?_)
 ·rw[e,z,E1]at q;exact⟨_,rfl,_,rfl,r,_,_,_,rfl,rfl,SqT.of hr1,aB ev,_,rfl,_,rfl,_,_,rfl,rfl,r,_,_,_,rfl,rfl,SqT.of hr1,jt ev' p1,_,_,td.isD,td'.isD,td.lay,td'.lay,EX dep' (by decide),q _ s1⟩
 ·rw[Fm]at z;rw[e,z,EO]at q;exact q _ s1
def fF(K:Frag):Sp:=spG K .bkind
variable(cT:Df P w K mg base 2 "good_burden_kind" ["floor","row","place"] (fF K))
theorem jC:ay ["floor","row","place"] ["floor","row","place"] (ao (top 66)):=by trivial
include B dH eE in
theorem jD(T:Tx K mg "good_burden_kind" (top 66) ["floor","row","place"]):Df P w K mg base 2 "good_burden_kind" ["floor","row","place"] (fF K):=by obtain⟨pu_BURDEN_KINDS,gu_BURDEN_KINDS,tu_BURDEN_KINDS⟩:=eE;refine T.df jC (by rintro _ _ _ _ ⟨fl,r,w,h,p,ds,rfl,hF,⟨hw,hw8⟩,⟨hh,hh8⟩,rr,⟨p1,pl⟩,pre,q⟩;rfl) ?_;rintro f _ A _ s H _ Q E hr ⟨fl,r,w,h,p,ds,rfl,hF,⟨hw,hw8⟩,⟨hh,hh8⟩,rr,⟨p1,pl⟩,pre,q⟩;refine⟨_,(ai (aw (au dH hr (aa (aF aG (pv 1) (pv 2) (fun _ _=>rfl)) (aa (bw (v:=.ref pu_BURDEN_KINDS) (by rfl) gu_BURDEN_KINDS rfl) af))))),?_⟩;obtain⟨vs,v,hr1,ev,td,dep⟩:=rr.at pl;exact⟨_,rfl,_,rfl,r,_,_,_,rfl,rfl,SqT.of hr1,aB ev,v,_,pu_BURDEN_KINDS,["debt","way","buy","note"],rfl,td,tu_BURDEN_KINDS _,q _ (aq.refl _)⟩
def fY(K:Frag):Sp:=fun vs H Q _=>∃(c:Int)(w h:Nat),vs=[.int c,.int w,.int h]/\(0<w/\w<=8/\0<h/\h<=8)/\∀(v:Nat) H',v<2^(w*h)->aq H H'->Q (.int v) H'
variable(bL:Df P w K mg base 2 "_law_make_ground" ["_law_cell","_law_wide","_law_high"] (fY K))
theorem bh:ay ["_law_cell","_law_wide","_law_high","_law_many","_law_rest","_law_way","_law_found"] ["_law_cell","_law_wide","_law_high"] (ao (top 79)):=by trivial
include B eY gH in
theorem jV(T:Tx K mg "_law_make_ground" (top 79) ["_law_cell","_law_wide","_law_high"]):Df P w K mg base 2 "_law_make_ground" ["_law_cell","_law_wide","_law_high"] (fY K):=by
 refine T.df bh (by rintro _ _ _ _ ⟨c,w,h,rfl,⟨hw,hw8,hh,hh8⟩,q⟩;rfl) ?_;rintro f _ A _ s H _ Q E hr ⟨c,w,h,rfl,⟨hw,hw8,hh,hh8⟩,q⟩;refine bq ?_;intro kX;refine ar 9 (ai (aw (aj aY (pv 6) (aj cK ae (pv 3))))) ?_;intro kR9 pR9;refine ar 8 (bj (aS (aC aV (pv 5) ae (aA _)) (ai (az (i:=6) bh.nd rfl (by trivial) (aF bH (bK (aa ae (aa (aj cK ae (aj aY (pv 4) (pv 3))) (aa (aj aZ (aj cK ae (pv 3)) ae) af)))) (aj aY (aj cb (pv 4) (pv 3)) ae) (fun _ _=>rfl)))) aD) pR9) ?_;intro kR8 pR8;refine ar 7 (bj (aS (aC aV (pv 5) ae (aA _)) (ai (az (i:=6) bh.nd rfl (by trivial) (au gH hr (aa (pv 4) (aa (pv 1) (aa (pv 2) af)))))) aD) pR8) ?_;intro kR7 pR7;refine ar 6 (bj (aS (aC aV (pv 5) ae (aA _)) (ai (az (i:=6) bh.nd rfl (by trivial) (aj aZ (aj aZ (aj cK ae (pv 3)) ae) (aj cK ae (aj aY (pv 4) (pv 3)))))) aD) pR7) ?_;intro kR6 pR6;refine ar 5 (bj (aS (aC aV (pv 5) ae (aA _)) (ai (az (i:=6) bh.nd rfl (by trivial) (aj mi (pv 6) (au eY hr (aa (aj bf (aj cb (pv 4) ae) ae) af))))) aD) pR6) ?_;intro kR5 pR5;refine ar 4 (bj (aS (aC aV (pv 5) ae (aA _)) (ai (az (i:=6) bh.nd rfl (by trivial) (aj tP (pv 6) (au eY hr (aa (aj bf (aj cb (pv 4) ae) ae) af))))) aD) pR5) ?_;intro kR4 pR4;refine ar 3 (ah (az (i:=6) bh.nd rfl (by trivial) (au eY hr (aa (pv 4) af))) pR4) ?_;intro kR3 pR3;refine ar 2 (ah (az (i:=5) bh.nd rfl (by trivial) (aj aY (pv 0) ae)) pR3) ?_;intro kR2 pR2;refine ar 1 (ah (az (i:=4) bh.nd rfl (by trivial) (aj cb (pv 0) ae)) pR2) ?_;intro kR1 pR1;refine⟨_,(ah (az (i:=3) bh.nd rfl (by trivial) (aj bN (pv 1) (pv 2))) pR1),?_⟩;have hwh:w*h<=64:=Fw hw8 hh8;have hwp:0<w*h:=Nat.mul_pos hw hh;have e1:((w:Int)*(h:Int))=((w*h:Nat):Int):=by simp
 have fin:∀(v:Int) H',aq H H'->Q (.int (v % (1*2^(((w*h:Nat):Int)).toNat))) H':=fun v H' s=>by obtain⟨z,ez,hz⟩:=AS v (w*h);rw[ez];exact q z H' hz s
 refine⟨_,rfl,_,rfl,_,_,rfl,rfl,.inl ⟨by omega,by omega⟩,_,rfl,_,_,rfl,rfl,⟨by decide,by decide⟩,_,rfl,_,_,rfl,rfl,(by show(0:Int)<_;decide),?_⟩;simp only[e1];refine⟨_,rfl,_,rfl,fun v=>?_⟩;have s0:=aq.refl H;refine⟨fun σ' H'=>∃v:Int,σ'=[some (.int c),some (.int w),some (.int h),some (.int ((w*h:Nat):Int)),some (.int (c / 8)),some (.int (c % 8)),some (.int v)]/\aq H H',?_,?_⟩
 ·refine dW ?_;intro kD1;refine⟨_,rfl,rfl,_,rfl,?_⟩;refine aT (fun h1=>?_) (fun h1=>?_)
  ·refine⟨_,rfl,_,rfl,_,_,rfl,rfl,⟨by decide,by decide⟩,_,_,rfl,rfl,_,rfl,fun v2=>⟨_,_,rfl,rfl,?_⟩⟩;exact⟨_,rfl,s0⟩
  ·exact⟨_,rfl,s0⟩
 rintro σ' H1 ⟨v,rfl,s1⟩;refine⟨fun σ' H'=>∃v:Int,σ'=[some (.int c),some (.int w),some (.int h),some (.int ((w*h:Nat):Int)),some (.int (c / 8)),some (.int (c % 8)),some (.int v)]/\aq H H',?_,?_⟩
 ·refine dW ?_;intro kD2;refine⟨_,rfl,rfl,_,rfl,?_⟩;refine aT (fun h1=>?_) (fun h1=>?_)
  ·refine⟨_,rfl,_,rfl,_,_,rfl,rfl,⟨by decide,by decide⟩,_,_,rfl,rfl,_,rfl,fun v2=>⟨_,_,rfl,rfl,?_⟩⟩;exact⟨_,rfl,s1⟩
  ·exact⟨_,rfl,s1⟩
 rintro σ' H2 ⟨v,rfl,s2⟩;refine⟨fun σ' H'=>∃v:Int,σ'=[some (.int c),some (.int w),some (.int h),some (.int ((w*h:Nat):Int)),some (.int (c / 8)),some (.int (c % 8)),some (.int v)]/\aq H H',?_,?_⟩
 ·refine dW ?_;intro kD3;refine⟨_,rfl,rfl,_,rfl,?_⟩;refine aT (fun h1=>?_) (fun h1=>?_)
  ·refine⟨_,rfl,_,_,rfl,rfl,⟨by omega,by omega,by decide⟩,_,_,rfl,rfl,_,rfl,_,rfl,_,_,rfl,rfl,(by omega),_,_,rfl,rfl,⟨E5 _ (by omega),by have:=E3 (c / 8) (show(0:Int)<((w*h:Nat):Int) by omega);omega,by decide⟩,_,_,rfl,rfl,?_⟩;exact⟨_,rfl,s2⟩
  ·exact⟨_,rfl,s2⟩
 rintro σ' H3 ⟨v,rfl,s3⟩;refine⟨fun σ' H'=>∃v:Int,σ'=[some (.int c),some (.int w),some (.int h),some (.int ((w*h:Nat):Int)),some (.int (c / 8)),some (.int (c % 8)),some (.int v)]/\aq H H',?_,?_⟩
 ·refine dW ?_;intro kD4;refine⟨_,rfl,rfl,_,rfl,?_⟩;refine aT (fun h1=>?_) (fun h1=>?_)
  ·refine⟨_,rfl,_,rfl,_,rfl,_,w,h,rfl,⟨hw,hw8,hh,hh8⟩,fun v4 H' s'=>?_⟩;exact⟨_,rfl,s3.trans s'⟩
  ·exact⟨_,rfl,s3⟩
 rintro σ' H4 ⟨v,rfl,s4⟩;refine⟨fun σ' H'=>∃v:Int,σ'=[some (.int c),some (.int w),some (.int h),some (.int ((w*h:Nat):Int)),some (.int (c / 8)),some (.int (c % 8)),some (.int v)]/\aq H H',?_,?_⟩
 ·refine dW ?_;intro kD5;refine⟨_,rfl,rfl,_,rfl,?_⟩;refine aT (fun h1=>?_) (fun h1=>?_)
  ·refine⟨_,rfl,_,rfl,_,_,rfl,rfl,(by omega),_,_,rfl,rfl,⟨E5 _ (by omega),by have:=E3 (c / 8) (show(0:Int)<((w*h:Nat):Int) by omega);omega,by decide⟩,_,rfl,_,_,rfl,rfl,⟨by omega,by omega,by decide⟩,_,_,rfl,rfl,aK rfl,fun l hl=>?_⟩;have y3:∃v5:Int,atI [V.int 0,.int (1*2^(c / 8 % ((w*h:Nat):Int)).toNat),.int (1*2^(((w*h:Nat):Int)).toNat-1)] (c / 8 / ((w*h:Nat):Int) % 3)=some (.int v5):=by
    have y4:c / 8 / ((w*h:Nat):Int) % 3=0\/c / 8 / ((w*h:Nat):Int) % 3=1\/c / 8 / ((w*h:Nat):Int) % 3=2:=(by omega);rcases y4 with y|y|y<;>rw[y]<;>exact⟨_,rfl⟩
   obtain⟨v5,y3⟩:=y3;refine⟨_,rfl,_,rfl,_,_,rfl,rfl,⟨by omega,by omega⟩,_,_,rfl,rfl,(by show(0:Int)<_;decide),l,_,_,_,rfl,rfl,SqL.of ag,y3,?_⟩;exact⟨_,rfl,s4.trans (aq.upd hl)⟩
  ·exact⟨_,rfl,s4⟩
 rintro σ' H5 ⟨v,rfl,s5⟩;exact⟨_,rfl,_,rfl,_,_,rfl,rfl,⟨by omega,by omega,by decide⟩,_,_,rfl,rfl,tN _,fin _ _ s5⟩
def km(K:Frag):Sp:=fun vs H Q _=>∃(w h c k:Nat),vs=[.int w,.int h,.int c,.int k]/\(0<w/\w<=8/\h<=8)/\c<2^(w*h)/\c.testBit k=true/\∀p H',cz w h c k p->aq H H'->Q (.int (p:Nat)) H'
variable(gI:Df P w K mg base 2 "_law_piece" ["_law_wide","_law_high","_law_ground","_law_cell"] (km K))
theorem dN:ay ["_law_wide","_law_high","_law_ground","_law_cell","_law_found","_law_todo","_law_here","_law_near"] ["_law_wide","_law_high","_law_ground","_law_cell"] (ao (top 82)):=by trivial
include B fP ie in
theorem qX(T:Tx K mg "_law_piece" (top 82) ["_law_wide","_law_high","_law_ground","_law_cell"]):Df P w K mg base 2 "_law_piece" ["_law_wide","_law_high","_law_ground","_law_cell"] (km K):=by
 refine T.df dN (by rintro _ _ _ _ ⟨w,h,c,k,rfl,⟨hw,hw8,hh8⟩,hc,hk,q⟩;rfl) ?_;rintro f _ A _ s H _ Q E hr ⟨w,h,c,k,rfl,⟨hw,hw8,hh8⟩,hc,hk,q⟩;have hu:=hr.units;refine bq ?_;intro kX;refine ar 3 (ai (aw (pv 4))) ?_;intro kR3 pR3;refine bU 2 1 (ai (je FG rfl (kP (au fP hr (aa (pv 0) (aa (pv 1) (aa (pv 6) af))))) (bJ (i:=7) dN.nd rfl (by trivial)) (ai (aS ((gg (cn (au ie hr (aa (pv 2) (aa (pv 7) af)))) (e8 (cw (cn (au ie hr (aa (pv 4) (aa (pv 7) af))))))).pt) (ah (az (i:=4) dN.nd rfl (by trivial) (aj bf (pv 4) (aj cK ae (pv 7)))) (ai (de (hX EU EW EV bY (pv 5) (aa (pv 7) af))))) aD)))) ?_;intro kS2x1 pS2x1;refine bU 2 0 (ah (az (i:=6) dN.nd rfl (by trivial) (vx EU PySem.F.slot_list_pop PySem.F.type_list_pop Cd (pv 5))) pS2x1) ?_;intro kS2x0 pS2x0;refine ar 2 (ah (jd FG (aC (ou hu) (pv 5) (bK af) (aA _)) pS2x0) pR3) ?_;intro kR2 pR2;refine ar 1 (ah (az (i:=5) dN.nd rfl (by trivial) (bK (aa (pv 3) af))) pR2) ?_;intro kR1 pR1;refine⟨_,(ah (az (i:=4) dN.nd rfl (by trivial) (aj cK ae (pv 3))) pR1),?_⟩;have hwh:w*h<=64:=Fw hw8 hh8;have p64:2^(w*h)<=2^64:=EN (by decide) hwh;have hc64:c<2^64:=EB hc p64;have hu:=hr.units;have hkn:=gq hc hk;have e0:(1:Int)*2^((k:Int)).toNat=((dY 0 [k]:Nat):Int):=by rw[fq];show((2^k:Nat):Int)=((0||| 2^k:Nat):Int);rw[Nat.zero_or]
 refine⟨_,rfl,_,_,rfl,rfl,⟨by omega,by omega,by decide⟩,?_⟩;refine⟨_,rfl,aK rfl,fun l hl=>?_⟩;have s0:=aq.upd (o:=.lst (NV [k])) hl;refine⟨fun m σ H2=>∃(G T:List Nat)(o6 o7:Option V),σ=[some (.int w),some (.int h),some (.int c),some (.int k),some (.int (dY 0 G:Nat)),some (.ref l),o6,o7]/\m=2*(64-G.length)+T.length/\m<=128/\SX l (upd H l (.lst (NV [k]))) H2/\H2 l=some (.lst (NV T))/\px w h c k G T,⟨127,[k],[k],none,none,(by rw[<-e0];rfl),rfl,by decide,SX.refl _ _,ag,px.start hk⟩,?_⟩;rintro m σ H2 ⟨G,T,o6,o7,rfl,rfl,hm,s2,hl2,D⟩;have hG:=D.len hc64;refine⟨_,rfl,aK rfl,fun e he=>?_⟩;have s3:=aq.upd (o:=.lst []) he;have hl3:=s3 _ _ hl2;refine⟨_,_,IsD.lst (SqL.of hl3) (mx T),IsD.lst (SqL.of ag) (mx []),uv _,rfl,by decide,_,rfl,?_⟩;generalize hH3:(upd H2 e (.lst []))=H3 at s3 hl3 ⊢;rcases List.eq_nil_or_concat T with rfl|⟨T,x,rfl⟩
 ·refine bP ?_;exact⟨_,rfl,q _ H3 D.done ((SX.same hl s0 s2).trans s3)⟩
 ·have ef:PyData.eqv (.list ((T++[x]).map fun k:Nat=>PyData.int (k:Int))) (.list (([]:List Nat).map fun k:Nat=>PyData.int (k:Int)))=false:=by
   cases T with
   |nil=>rfl
   |cons y t=>rfl
  rw[show T.concat x=T++[x] by simp]at*;rw[ef];refine fL ⟨_,fun _ _ z=>z,?_⟩;rw[EC,Fq]at hm;have hxc:=(D.rc x (D.sb x (by simp))).in;have hxn:=gq hc hxc;refine⟨_,rfl,.inl ⟨rfl,_,SqL.of hl3⟩,l,_,.int (x:Int),rfl,rfl,hl3,?_,?_⟩
  ·rw[wb,EC];simp
  rw[show(NV (T++[x])).dropLast=NV T by rw[wb];exact List.dropLast_concat];refine⟨_,rfl,_,rfl,_,rfl,w,h,x,rfl,⟨by omega,by omega⟩,fun l2 hn2=>⟨l2,rfl,⟨_,SqL.of ag⟩,?_⟩⟩;rw[ud w h x];have hl4:(upd H3 l (.lst (NV T))) l=some (.lst (NV T)):=ag;have n2l:l2≠l:=fun z=>by rw[z,ag]at hn2;cases hn2
  refine jl (K:=K) (a:=l2) (xs:=((bX w h x).map fun j:Nat=>(j:Int)).map V.int)
   (fun j σ H4=>∃(M:List Nat)(o7:Option V),σ=[some (.int w),some (.int h),some (.int c),some (.int k),some (.int (dY 0 (G++M):Nat)),some (.ref l),some (.int x),o7]/\SX l (upd (upd H3 l (.lst (NV T))) l2 (.lst (((bX w h x).map fun j:Nat=>(j:Int)).map V.int))) H4/\H4 l=some (.lst (NV (T++M)))/\M.length<=j/\pN w h c k x (G++M) (T++M) ((bX w h x).take j))
   ⟨[],o7,(by rw[E2];rfl),SX.refl _ _,(by rw[aN (Gj n2l),E2];exact hl4),EG _,by rw[E2,E2];exact D.mid⟩
   (fun j σ H4 _ ⟨_,_,_,s4,_⟩=>SqL.of (s4 _ _ n2l ag)) ?_ ?_
  ·rintro j y σ H4 hj ⟨M,o7',rfl,s4,hl5,hMl,DM⟩;refine oX ?_;intro kD1;obtain⟨z,hz,rfl⟩:=uE hj;have hzm:z∈bX w h x:=EY hz;have hzn:=rC hw hxn hzm;have hjl:j<(bX w h x).length:=(ED.mp hz).1;have h4:=zu w h x;have et:(bX w h x).take (j+1)=(bX w h x).take j++[z]:=(by rw[FD,hz];rfl);refine⟨_,rfl,_,rfl,c,z,rfl,by omega,_,rfl,?_⟩;refine aT (fun hcz=>?_) (fun hcz=>?_)
   ·refine⟨_,rfl,_,rfl,_,z,rfl,by omega,_,rfl,?_⟩;cases hf:(dY 0 (G++M)).testBit z with
    |true=>refine bP ⟨M,_,rfl,s4,hl5,by omega,?_⟩;rw[et];exact DM.skip fun _=>ma.mp hf
    |false=>
     have hnG:¬z∈G++M:=fun q'=>by rw[ma.mpr q']at hf;cases hf
     refine fL ?_;refine⟨_,rfl,_,rfl,_,_,rfl,rfl,⟨by omega,by omega,by decide⟩,_,_,rfl,rfl,?_⟩;have ea:((dY 0 (G++M):Nat):Int)+1*2^((z:Int)).toNat=((dY 0 (G++(M++[z])):Nat):Int):=by
      rw[fq,<-FQ];have e3:dY 0 (G++M++[z])=dY 0 (G++M)||| 2^z:=by unfold dY;rw[List.foldl_append];rfl
      rw[e3,ze (and_zero fun j hj=>by
       rw[ny,decide_eq_false_iff_not];intro e4;subst e4;rw[hf]at hj
       cases hj)]
      omega
     refine⟨_,rfl,.inl ⟨rfl,_,SqL.of hl5⟩,_,rfl,l,_,_,rfl,rfl,hl5,?_,?_⟩
     ·refine aM ?_;rw[Ew,EC];omega
     refine⟨M++[z],some (.int z),?_,s4.trans SX.set,?_,?_,?_⟩
     ·simp only[ea];rfl
     ·rw[ag,<-FQ,wb (T++M)];rfl
     ·rw[EC,Fq];omega
     ·rw[et,<-FQ,<-FQ];exact DM.push hcz hzm hnG
   ·refine⟨M,_,rfl,s4,hl5,by omega,?_⟩;rw[et];exact DM.skip fun q'=>absurd q' hcz
  ·rintro σ H4 ⟨M,o7',rfl,s4,hl5,hMl,DM⟩;rw[Ew,Ew,FI]at DM;have DI:=DM.done;have hG2:=DI.len hc64;rw[EC]at hG2;refine⟨_,?_,G++M,T++M,some (.int x),o7',rfl,rfl,?_,?_,hl5,DI⟩
   ·rw[EC,EC,EC,Fq];omega
   ·rw[EC,EC];omega
   ·exact s2.trans ((SX.of s3).trans (SX.set.trans ((SX.of (aq.upd hn2)).trans s4)))
def gy(K:Frag):Sp:=fun vs H Q _=>∃(c w:Int),vs=[.int c,.int w,.int 12]/\∀l f m H',aq H H'->f+m<=13->m<=12->H' l=some (.lst ((bA w f m).map V.str))->Q (.ref l) H'
variable(bS:Df P w K mg base 2 "_law_make_names" ["_law_cell","_law_way","_law_most"] (gy K))
theorem eF:ay ["_law_cell","_law_way","_law_most","_law_many","_law_first"] ["_law_cell","_law_way","_law_most"] (ao (top 86)):=by trivial
include B av bg in
theorem kS(T:Tx K mg "_law_make_names" (top 86) ["_law_cell","_law_way","_law_most"]):Df P w K mg base 2 "_law_make_names" ["_law_cell","_law_way","_law_most"] (gy K):=by
 refine T.df eF (by rintro _ _ _ _ ⟨c,w,rfl,q⟩;rfl) ?_;rintro f _ A _ s H _ Q E hr ⟨c,w,rfl,q⟩;refine bq ?_;intro kX;refine ar 2 (ai (aw (cV ["_law_k"] [("_law_first",4),("_law_way",1)] (jr _ ["_law_way","_law_first"]) rfl (by rfl) rfl (by trivial) (by trivial) (bT (by rfl)) (fC (by rfl)) (mC ⟨rfl,rfl⟩ (mC ⟨rfl,rfl⟩ mN)) (mC rfl (mC rfl mN)) (dZ (by decide)) (eT (by rfl) B.range (aa (pv 3) af)) (fun _ _ _ _=>bJ (i:=0) (show(["_law_k","_law_first","_law_way"]:List Str).Nodup by trivial) rfl (Or.inl rfl) (Or.inr rfl)) (fun _ _ _ _=>dE) (fun _ _ _ _=>(au bg hr (aa (aj bf (pv 1) (pv 0)) (aa (pv 2) af))))))) ?_;intro kR2 pR2;refine ar 1 (ah (az (i:=4) eF.nd rfl (by trivial) (au av hr (aa (pv 0) (aa ae (aa (aj aZ ae (pv 3)) af))))) pR2) ?_;intro kR1 pR1;refine⟨_,(ah (az (i:=3) eF.nd rfl (by trivial) (aF bH (bK (aa (pv 2) (aa (au av hr (aa (pv 0) (aa ae (aa (aj bf (pv 2) ae) af)))) (aa (au av hr (aa (pv 0) (aa ae (aa ae af)))) af)))) (au av hr (aa (pv 0) (aa ae (aa ae af)))) (fun _ _=>rfl))) pR1),?_⟩;refine⟨_,rfl,_,rfl,_,rfl,_,_,rfl,rfl,c,5,13,rfl,by decide,by decide,fun k1 hk1=>?_⟩;refine⟨_,rfl,c,6,3,rfl,by decide,by decide,fun k2 hk2=>?_⟩;refine⟨aK rfl,fun l0 hl0=>?_⟩;have u0:=aq.upd (o:=.lst [.int 12,.int (k1:Nat),.int (k2:Nat)]) hl0;have g0:(upd H l0 (.lst [.int 12,.int (k1:Nat),.int (k2:Nat)])) l0=some (.lst [.int 12,.int (k1:Nat),.int (k2:Nat)]):=ag;generalize (upd H l0 (.lst [.int 12,.int (k1:Nat),.int (k2:Nat)]))=H1 at u0 g0 ⊢;refine⟨_,rfl,c,7,3,rfl,by decide,by decide,fun k3 hk3=>?_⟩;obtain⟨m,hm,em⟩:∃m:Nat,m<=12/\atI [V.int 12,.int (k1:Nat),.int (k2:Nat)] ((k3:Nat):Int)=some (.int (m:Nat)):=by
  rcases (show k3=0\/k3=1\/k3=2 by omega)with e|e|e<;>rw[e]
  ·exact⟨12,by omega,rfl⟩
  ·exact⟨k1,by omega,rfl⟩
  ·exact⟨k2,by omega,rfl⟩
 refine⟨l0,_,_,_,rfl,rfl,SqL.of g0,em,?_⟩;refine⟨_,rfl,_,rfl,_,_,rfl,rfl,c,8,13-m,?_,by omega,by decide,fun f hf=>?_⟩
 ·show[V.int c,V.int 8,V.int (13-((m:Nat):Int))]=_;rw[show(13:Int)-((m:Nat):Int)=((13-m:Nat):Int) by omega];rfl
 refine⟨_,rfl,_,rfl,by omega,by omega,fun D hD=>?_⟩;rw[ET];refine qi (n:=m) (lo:=0) (fun i acc H6=>H6=upd H1 D (.lst acc)/\acc=(bA w f i).map V.str) ⟨rfl,rfl⟩ ?_ ?_
 ·rintro i acc H6 hi ⟨rfl,rfl⟩;rw[show(0:Int)+(i:Int)=((i:Nat):Int) by omega];refine iL ?_;intro kq1 kr1;refine⟨_,rfl,_,rfl,_,_,rfl,rfl,_,rfl,f+i,w,rfl,by omega,ag,aM (by rw[Ew,fJ];omega),by rw[c8],?_⟩;unfold bA;rw[Gg,EK,EK];rfl
 ·rintro acc H6 ⟨rfl,rfl⟩;exact q D f m _ (u0.trans (aq.upd hD)) (by omega) hm ag
def mL(K:Frag):Sp:=fun vs H Q _=>∃(c a b:Int)(s:Nat),vs=[.int c,.int (s:Nat),.int a,.int b]/\s<=1000/\a<=b/\∀i H',aq H H'->a<=i->i<=b->Q (.int i) H'
variable(bz:Df P w K mg base 2 "_law_edge" ["_law_cell","_law_salt","_law_least","_law_most"] (mL K))
theorem tF:ay ["_law_cell","_law_salt","_law_least","_law_most"] ["_law_cell","_law_salt","_law_least","_law_most"] (ao (top 87)):=by trivial
include B av in
theorem tW(T:Tx K mg "_law_edge" (top 87) ["_law_cell","_law_salt","_law_least","_law_most"]):Df P w K mg base 2 "_law_edge" ["_law_cell","_law_salt","_law_least","_law_most"] (mL K):=by
 refine T.df tF (by rintro _ _ _ _ ⟨c,a,b,s,rfl,hs,hab,q⟩;rfl) ?_;rintro f _ A _ s H _ Q E hr ⟨c,a,b,s,rfl,hs,hab,q⟩;refine⟨_,(ai (aw (aF bH (bK (aa (pv 2) (aa (pv 3) (aa (aj bf (pv 2) (aj aY (pv 0) (aj bf (aj aZ (pv 3) (pv 2)) ae))) af)))) (au av hr (aa (pv 0) (aa (pv 1) (aa ae af)))) (fun _ _=>rfl)))),?_⟩;have m0:=E5 c (show b-a+1≠0 by omega);have m1:=E3 c (show 0<b-a+1 by omega);refine⟨_,rfl,_,rfl,_,rfl,_,rfl,_,rfl,_,rfl,_,_,rfl,rfl,_,_,rfl,rfl,_,_,rfl,rfl,(by show 0<b-a+1;omega),_,_,rfl,rfl,aK rfl,fun l0 hl0=>?_⟩;have u0:=aq.upd (o:=.lst [.int a,.int b,.int (a+c % (b-a+1))]) hl0;have g0:(upd H l0 (.lst [.int a,.int b,.int (a+c % (b-a+1))])) l0=some (.lst [.int a,.int b,.int (a+c % (b-a+1))]):=ag;generalize (upd H l0 (.lst [.int a,.int b,.int (a+c % (b-a+1))]))=H1 at u0 g0 ⊢;refine⟨_,rfl,_,rfl,c,s,3,rfl,by decide,hs,fun k3 hk3=>?_⟩;rcases (show k3=0\/k3=1\/k3=2 by omega)with e|e|e
 ·subst e;exact⟨l0,_,_,_,rfl,rfl,SqL.of g0,aB (j:=0) rfl,q a _ u0 (by omega) hab⟩
 ·subst e;exact⟨l0,_,_,_,rfl,rfl,SqL.of g0,aB (j:=1) rfl,q b _ u0 hab (by omega)⟩
 ·subst e;exact⟨l0,_,_,_,rfl,rfl,SqL.of g0,aB (j:=2) rfl,q _ _ u0 (by omega) (by omega)⟩
def jG(K:Frag):Sp:=fun vs H Q _=>∃(c a b:Int),vs=[.int c,.int a,.int b]/\a<=b/\∀v d H',aq H H'->TD H' d v->wi a b d=false->d≠ .none->d.depth<=1->Q v H'
variable(aR:Df P w K mg base 2 "_law_beyond" ["_law_cell","_law_least","_law_most"] (jG K))
theorem jM:ay ["_law_cell","_law_least","_law_most","_law_some"] ["_law_cell","_law_least","_law_most"] (ao (top 94)):=by trivial
include B av in
theorem pG(T:Tx K mg "_law_beyond" (top 94) ["_law_cell","_law_least","_law_most"]):Df P w K mg base 2 "_law_beyond" ["_law_cell","_law_least","_law_most"] (jG K):=by
 refine T.df jM (by rintro _ _ _ _ ⟨c,a,b,rfl,hab,q⟩;rfl) ?_;rintro f _ A _ s H _ Q E hr ⟨c,a,b,rfl,hab,q⟩;refine bq ?_;intro kX;refine ar 1 (ai (aw (aF bH (aj mh (pv 3) (bK (aa aO (aa (bu (aa ae af)) (aa (bK (aa ae af)) (aa aO af)))))) (au av hr (aa (pv 0) (aa ae (aa ae af)))) (fun _ _=>rfl)))) ?_;intro kR1 pR1;refine⟨_,(ah (az (i:=3) jM.nd rfl (by trivial) (bK (aa (aj aZ (aj aZ (pv 1) ae) (aj aY (pv 0) (aj bC ae ae))) (aa (aj bf (aj bf (pv 2) ae) (aj aY (pv 0) (aj bC ae ae))) (aa (aj aZ (pv 1) ae) (aa (aj bf (pv 2) ae) (aa eI (aa eI af)))))))) pR1),?_⟩;have m0:=E5 c (show(10:Int)^60≠0 by decide);refine⟨_,rfl,_,_,rfl,rfl,_,rfl,_,_,rfl,rfl,⟨by decide,by decide,by decide⟩,_,_,rfl,rfl,(by show(0:Int)<10^60;decide),_,_,rfl,rfl,?_⟩;refine⟨_,rfl,_,_,rfl,rfl,_,rfl,_,_,rfl,rfl,⟨by decide,by decide,by decide⟩,_,_,rfl,rfl,(by show(0:Int)<10^60;decide),_,_,rfl,rfl,?_⟩;refine⟨_,rfl,_,_,rfl,rfl,_,rfl,_,_,rfl,rfl,aK rfl,fun l1 hl1=>?_⟩;obtain⟨X,eX⟩:∃X:Int,c % 10^Int.toNat 60=X:=⟨_,rfl⟩;have m1:0<=X:=by rw[<-eX];exact m0
 simp only[eX];have u1:=aq.upd (o:=.lst [.int (a-1-X),.int (b+1+X),.int (a-1),.int (b+1),.bl true,.bl false]) hl1;have k1:(upd H l1 (.lst [.int (a-1-X),.int (b+1+X),.int (a-1),.int (b+1),.bl true,.bl false])) l1=some (.lst [.int (a-1-X),.int (b+1+X),.int (a-1),.int (b+1),.bl true,.bl false]):=ag;generalize (upd H l1 (.lst [.int (a-1-X),.int (b+1+X),.int (a-1),.int (b+1),.bl true,.bl false]))=H1 at u1 k1 ⊢;refine⟨_,rfl,aK rfl,fun t1 ht1=>?_⟩;have u2:=aq.upd (o:=.tup [.int 1]) ht1;have k2:(upd H1 t1 (.tup [.int 1])) t1=some (.tup [.int 1]):=ag;generalize (upd H1 t1 (.tup [.int 1]))=H2 at u2 k2 ⊢;refine⟨aK rfl,fun l2 hl2=>?_⟩;have u3:=aq.upd (o:=.lst [.int 1]) hl2;have k3:(upd H2 l2 (.lst [.int 1])) l2=some (.lst [.int 1]):=ag;generalize (upd H2 l2 (.lst [.int 1]))=H3 at u3 k3 ⊢;refine⟨aK rfl,fun l3 hl3=>?_⟩;have u4:=aq.upd (o:=.lst [.str "1",.ref t1,.ref l2,.str ""]) hl3;have k4:(upd H3 l3 (.lst [.str "1",.ref t1,.ref l2,.str ""])) l3=some (.lst [.str "1",.ref t1,.ref l2,.str ""]):=ag;generalize (upd H3 l3 (.lst [.str "1",.ref t1,.ref l2,.str ""]))=H4 at u4 k4 ⊢;refine⟨l1,l3,_,_,rfl,rfl,(u2.trans (u3.trans u4)) _ _ k1,k4,Et rfl,fun l4 hl4=>?_⟩;have u5:=aq.upd (o:=.lst ([.int (a-1-X),.int (b+1+X),.int (a-1),.int (b+1),.bl true,.bl false]++[.str "1",.ref t1,.ref l2,.str ""])) hl4;have k5:(upd H4 l4 (.lst ([.int (a-1-X),.int (b+1+X),.int (a-1),.int (b+1),.bl true,.bl false]++[.str "1",.ref t1,.ref l2,.str ""]))) l4=some (.lst ([.int (a-1-X),.int (b+1+X),.int (a-1),.int (b+1),.bl true,.bl false]++[.str "1",.ref t1,.ref l2,.str ""])):=ag;generalize (upd H4 l4 (.lst ([.int (a-1-X),.int (b+1+X),.int (a-1),.int (b+1),.bl true,.bl false]++[.str "1",.ref t1,.ref l2,.str ""])))=H5 at u5 k5 ⊢;have td:TDs H5 [.int (a-1-X),.int (b+1+X),.int (a-1),.int (b+1),.bool true,.bool false,.str "1",.tuple [.int 1],.list [.int 1],.str ""] ([.int (a-1-X),.int (b+1+X),.int (a-1),.int (b+1),.bl true,.bl false]++[.str "1",.ref t1,.ref l2,.str ""]):=
  .cons (.int _) (.cons (.int _) (.cons (.int _) (.cons (.int _) (.cons (.bl _) (.cons (.bl _) (.cons (.str _ (by decide+kernel) wW.1) (.cons (.tup ((u3.trans (u4.trans u5)) _ _ k2) (.cons (.int _) .nil)) (.cons (.lst ((u4.trans u5) _ _ k3) (.cons (.int _) .nil)) (.cons (.str _ (by decide+kernel) wW.2) .nil)))))))))
 have all:∀d∈([.int (a-1-X),.int (b+1+X),.int (a-1),.int (b+1),.bool true,.bool false,.str "1",.tuple [.int 1],.list [.int 1],.str ""]:List PyData),wi a b d=false/\d≠ .none/\d.depth<=1:=by
  intro d hd;simp only[Fd,List.not_mem_nil,or_false]at hd;rcases hd with e|e|e|e|e|e|e|e|e|e<;>subst e
  ·exact⟨wq (.inl (by omega)),nofun,EH _⟩
  ·exact⟨wq (.inr (by omega)),nofun,EH _⟩
  ·exact⟨wq (.inl (by omega)),nofun,EH _⟩
  ·exact⟨wq (.inr (by omega)),nofun,EH _⟩
  all_goals exact⟨rfl,nofun,by decide⟩
 refine⟨_,rfl,c,41,10,rfl,by decide,by decide,fun k hk=>?_⟩;obtain⟨d,hd⟩:∃d,([.int (a-1-X),.int (b+1+X),.int (a-1),.int (b+1),.bool true,.bool false,.str "1",.tuple [.int 1],.list [.int 1],.str ""]:List PyData)[k]?=some d:=⟨_,ER hk⟩;obtain⟨v,hv,tv⟩:=td.at hd;obtain⟨a1,a2,a3⟩:=all d (EY hd);exact⟨l4,_,_,_,rfl,rfl,SqL.of k5,aB hv,q v d _ (u1.trans (u2.trans (u3.trans (u4.trans u5)))) tv a1 a2 a3⟩
def gz(K:Frag):Sp:=fun vs H Q _=>∃(c:Int)(ls:Addr)(ds:List PyData),vs=[.int c,.ref ls]/\TD H (.tuple ds) (.ref ls)/\jR (.tuple ds)=true/\PyData.depthAll ds<=0/\∀v d H',aq H H'->TD H' d v->jR d=false->d.depth<=2->Q v H'
variable(dQ:Df P w K mg base 2 "_law_bad_signed" ["_law_cell","_law_signed"] (gz K))
theorem c9:ay ["_law_cell","_law_signed","_law_many","_law_some"] ["_law_cell","_law_signed"] (ao (top 95)):=by trivial
include B av in
theorem kT(T:Tx K mg "_law_bad_signed" (top 95) ["_law_cell","_law_signed"]):Df P w K mg base 2 "_law_bad_signed" ["_law_cell","_law_signed"] (gz K):=by
 refine T.df c9 (by rintro _ _ _ _ ⟨c,ls,ds,rfl,tS,hs,dep,q⟩;rfl) ?_;rintro f _ A _ s H _ Q E hr ⟨c,ls,ds,rfl,tS,hs,dep,q⟩
 refine⟨_,(@ah _ _ _ _ _ (@az _ _ 2 _ _ _ _ c9.nd rfl (by trivial) (cJ fk (by rfl) B.tuple boot_tuple (@aa _ _ _ _ _ (cV ["_law_k"] [] (jr _ []) rfl (by rfl) rfl (by trivial) (by trivial) (bT (by rfl)) (fC (by rfl)) mN mN (dZ (by decide)) (eT (by rfl) B.range (@aa _ _ _ _ _ ae af rfl)) (fun _ _ _ _=>bJ (i:=0) (show(["_law_k"]:List Str).Nodup by trivial) rfl (Or.inl rfl) (Or.inr rfl)) (fun _ _ _ _=>dE) (fun _ _ _ _=>(@aF _ _ _ _ _ _ _ rL aO (pv 0) (fun _ _=>rfl)))) af rfl)) rfl (by trivial))
  (@ah _ _ _ _ _ (@az _ _ 3 _ _ _ _ c9.nd rfl (by trivial) (@bK _ _ _ _ (@aa _ _ _ _ _ (cJ iA (by rfl) B.list boot_list (@aa _ _ _ _ _ (pv 1) af rfl)) (@aa _ _ _ _ _ jg (@aa _ _ _ _ _ aO (@aa _ _ _ _ _ (aj fH (pv 1) (@aJ _ _ _ _ _ (@ak _ _ _ _ _ (aW (by decide+kernel) (by decide+kernel)) aE rfl) (Et rfl))) (@aa _ _ _ _ _ (aj fH (pv 1) (@aJ _ _ _ _ _ (@ak _ _ _ _ _ (aW (by decide+kernel) (by decide+kernel)) aE rfl) (Et rfl))) (@aa _ _ _ _ _ (aj fH (pv 1) (@aJ _ _ _ _ _ (@ak _ _ _ _ _ (aW (by decide+kernel) (by decide+kernel)) aE rfl) (Et rfl))) (@aa _ _ _ _ _ (aj fH (pv 1) (@aJ _ _ _ _ _ (@ak _ _ _ _ _ aQ aE rfl) (Et rfl))) af rfl) rfl) rfl) rfl) rfl) rfl) rfl)) rfl (by trivial)) (@ah _ _ _ _ _ (@az _ _ 3 _ _ _ _ c9.nd rfl (by trivial) (aj mh (pv 3) (@bK _ _ _ _ (@aa _ _ _ _ _ (@aJ _ _ _ _ _ (@ak _ _ _ _ _ (aW (by decide+kernel) (by decide+kernel)) (@ak _ _ _ _ _ (aW (by decide+kernel) (by decide+kernel)) aE rfl) rfl) (Et rfl)) (@aa _ _ _ _ _ (@aJ _ _ _ _ _ (@ak _ _ _ _ _ (aW (by decide+kernel) (by decide+kernel)) (@ak _ _ _ _ _ (aW (by decide+kernel) (by decide+kernel)) aE rfl) rfl) (Et rfl)) (@aa _ _ _ _ _ (pv 2) (@aa _ _ _ _ _ (@aJ _ _ _ _ _ (@ak _ _ _ _ _ (aW (by decide+kernel) (by decide+kernel)) aE rfl) (Et rfl)) (@aa _ _ _ _ _ (@aJ _ _ _ _ _ (@ak _ _ _ _ _ j7 aE rfl) (Et rfl)) (@aa _ _ _ _ _ (@aJ _ _ _ _ _ (@ak _ _ _ _ _ (@eU _ _ _ _ (@ak _ _ _ _ _ (aW (by decide+kernel) (by decide+kernel)) aE rfl) (Et rfl)) aE rfl) (Et rfl)) (@aa _ _ _ _ _ ae (@aa _ _ _ _ _ (@aJ _ _ _ _ _ (@ak _ _ _ _ _ (aW (by decide+kernel) (by decide+kernel)) aE rfl) (Et rfl)) af rfl) rfl) rfl) rfl) rfl) rfl) rfl) rfl))) rfl (by trivial)) (@ai _ _ _ (@aw _ _ _ _ (@aF _ _ _ _ _ _ _ bH (pv 3) (au av hr (@aa _ _ _ _ _ (pv 0) (@aa _ _ _ _ _ ae (@aa _ _ _ _ _ ae af rfl) rfl) rfl)) (fun _ _=>rfl))))))),?_⟩
 obtain⟨L8,vs8,el8,hl8,z8⟩:=tS.tupE;cases el8;have l12:ds.length<=12:=by have:(decide (ds.length<=12)&&(ds.all nmD&&rise (ds.map qy)))=true:=hs;rw[EL]at this;exact EA this.1
 have lv:=z8.len;refine⟨_,rfl,by decide,by decide,fun D hD=>?_⟩;refine qi (n:=13) (lo:=0) (fun i acc H6=>H6=upd H D (.lst acc)/\acc=(bA 0 0 i).map V.str) ⟨rfl,rfl⟩ ?_ ?_
 ·rintro i acc H6 hi ⟨rfl,rfl⟩;rw[show(0:Int)+(i:Int)=((i:Nat):Int) by omega];refine iL ?_;intro kq1 kr1;have at_:atI (Str.ofString "abcdefghijklm").cps.toList ((i:Nat):Int)=some (97+i):=by
   have:∀k∈List.range 13,atI (Str.ofString "abcdefghijklm").cps.toList ((k:Nat):Int)=some (97+k):=(by decide+kernel);exact this i (FC.mpr hi)
  refine⟨_,rfl,_,_,_,rfl,rfl,by decide+kernel,at_,ag,aM (by rw[Ew,fJ];omega),by rw[c8],?_⟩;unfold bA;rw[Gg,EK,EK];refine congrArg (fun z=>_++[V.str z]) ?_;show _=cC 0 (0+i);rw[Nat.zero_add];rfl
 rintro acc HM ⟨rfl,rfl⟩;refine⟨D,_,rfl,.inl ⟨SqL.of ag,fun lM hlM=>?_⟩⟩;have sM:=(aq.upd hD).trans (aq.upd (o:=.tup ((bA 0 0 13).map V.str)) hlM);have gM:(upd (upd H D (.lst ((bA 0 0 13).map V.str))) lM (.tup ((bA 0 0 13).map V.str))) lM=some (.tup ((bA 0 0 13).map V.str)):=ag;generalize (upd (upd H D (.lst ((bA 0 0 13).map V.str))) lM (.tup ((bA 0 0 13).map V.str)))=H0 at sM gM ⊢;refine⟨_,rfl,ls,vs8,rfl,.inr (SqT.of (sM _ _ hl8)),fun l1 hl1=>?_⟩;have s1:=aq.upd (o:=.lst vs8) hl1;have g1:(upd H0 l1 (.lst vs8)) l1=some (.lst vs8):=ag;generalize (upd H0 l1 (.lst vs8))=H1 at s1 g1 ⊢;refine⟨_,rfl,fun v0 F0 a0 t0=>?_⟩;obtain⟨p0,w0,ev0,h0,z0⟩:=t0.tupE;cases ev0;refine⟨ls,p0,vs8,w0,rfl,rfl,(sM.trans (s1.trans a0)) _ _ hl8,h0,by rw[lv,z0.len];exact EX (Nat.add_le_add_right l12 _) (Et rfl),fun r0 G0 b0 k0=>?_⟩;have y0:=((z8.same (sM.trans (s1.trans a0))).app z0).same b0;refine⟨_,rfl,fun v1 F1 a1 t1=>?_⟩;obtain⟨p1,w1,ev1,h1,z1⟩:=t1.tupE;cases ev1;refine⟨ls,p1,vs8,w1,rfl,rfl,(sM.trans (s1.trans (a0.trans (b0.trans a1)))) _ _ hl8,h1,by rw[lv,z1.len];exact EX (Nat.add_le_add_right l12 _) (Et rfl),fun r1 G1 b1 k1=>?_⟩;have y1:=((z8.same (sM.trans (s1.trans (a0.trans (b0.trans a1))))).app z1).same b1;refine⟨_,rfl,fun v2 F2 a2 t2=>?_⟩;obtain⟨p2,w2,ev2,h2,z2⟩:=t2.tupE;cases ev2;refine⟨ls,p2,vs8,w2,rfl,rfl,(sM.trans (s1.trans (a0.trans (b0.trans (a1.trans (b1.trans a2)))))) _ _ hl8,h2,by rw[lv,z2.len];exact EX (Nat.add_le_add_right l12 _) (Et rfl),fun r2 G2 b2 k2=>?_⟩;have y2:=((z8.same (sM.trans (s1.trans (a0.trans (b0.trans (a1.trans (b1.trans a2))))))).app z2).same b2;refine⟨_,rfl,fun v3 F3 a3 t3=>?_⟩;obtain⟨p3,w3,ev3,h3,z3⟩:=t3.tupE;cases ev3;refine⟨ls,p3,vs8,w3,rfl,rfl,(sM.trans (s1.trans (a0.trans (b0.trans (a1.trans (b1.trans (a2.trans (b2.trans a3)))))))) _ _ hl8,h3,by rw[lv,z3.len];exact EX (Nat.add_le_add_right l12 _) (Et rfl),fun r3 G3 b3 k3=>?_⟩;have y3:=((z8.same (sM.trans (s1.trans (a0.trans (b0.trans (a1.trans (b1.trans (a2.trans (b2.trans a3))))))))).app z3).same b3;refine⟨aK rfl,fun lL hlL=>?_⟩;have sL:=aq.upd (o:=.lst [.ref l1,.non,.str "ann",.ref r0,.ref r1,.ref r2,.ref r3]) hlL;have gL:(upd G3 lL (.lst [.ref l1,.non,.str "ann",.ref r0,.ref r1,.ref r2,.ref r3])) lL=some (.lst [.ref l1,.non,.str "ann",.ref r0,.ref r1,.ref r2,.ref r3]):=ag;generalize (upd G3 lL (.lst [.ref l1,.non,.str "ann",.ref r0,.ref r1,.ref r2,.ref r3]))=HL at sL gL ⊢;refine⟨_,rfl,fun va Ha sa ta vb Hb sb tb=>⟨_,rfl,fun vc Hc sc tc vd Hd sd td ve He se te vf Hf sf tf=>⟨aK rfl,fun lN hlN=>?_⟩⟩⟩;have sN:=aq.upd (o:=.lst [va,vb,.ref lM,vc,vd,ve,.int 5,vf]) hlN;have gN:(upd Hf lN (.lst [va,vb,.ref lM,vc,vd,ve,.int 5,vf])) lN=some (.lst [va,vb,.ref lM,vc,vd,ve,.int 5,vf]):=ag;generalize (upd Hf lN (.lst [va,vb,.ref lM,vc,vd,ve,.int 5,vf]))=HN at sN gN ⊢;refine⟨lL,lN,_,_,rfl,rfl,(sa.trans (sb.trans (sc.trans (sd.trans (se.trans (sf.trans sN)))))) _ _ gL,gN,Et rfl,fun lQ hlQ=>?_⟩;have sQ:=aq.upd (o:=.lst ([.ref l1,.non,.str "ann",.ref r0,.ref r1,.ref r2,.ref r3]++[va,vb,.ref lM,vc,vd,ve,.int 5,vf])) hlQ;have gQ:(upd HN lQ (.lst ([.ref l1,.non,.str "ann",.ref r0,.ref r1,.ref r2,.ref r3]++[va,vb,.ref lM,vc,vd,ve,.int 5,vf]))) lQ=some (.lst ([.ref l1,.non,.str "ann",.ref r0,.ref r1,.ref r2,.ref r3]++[va,vb,.ref lM,vc,vd,ve,.int 5,vf])):=ag;generalize (upd HN lQ (.lst ([.ref l1,.non,.str "ann",.ref r0,.ref r1,.ref r2,.ref r3]++[va,vb,.ref lM,vc,vd,ve,.int 5,vf])))=HQ at sQ gQ ⊢;have tA:TDs HQ [.list ds,.none,.str "ann",.tuple (ds++[.str "Ann"]),.tuple (ds++[.str ""]),.tuple (ds++[.str "abcdefghi"]),.tuple (ds++[.int 3]),.tuple [.str "b",.str "a"],.tuple [.str "a",.str "a"],.tuple ((bA 0 0 13).map PyData.str),.tuple [.str "a b"],.tuple [.none],.tuple [.list [.str "a"]],.int 5,.tuple [.str "a1"]] ([.ref l1,.non,.str "ann",.ref r0,.ref r1,.ref r2,.ref r3]++[va,vb,.ref lM,vc,vd,ve,.int 5,vf]):=(.cons (.lst ((a0.trans (b0.trans (a1.trans (b1.trans (a2.trans (b2.trans (a3.trans (b3.trans (sL.trans (sa.trans (sb.trans (sc.trans (sd.trans (se.trans (sf.trans (sN.trans sQ)))))))))))))))) _ _ g1) (z8.same (sM.trans (s1.trans (a0.trans (b0.trans (a1.trans (b1.trans (a2.trans (b2.trans (a3.trans (b3.trans (sL.trans (sa.trans (sb.trans (sc.trans (sd.trans (se.trans (sf.trans (sN.trans sQ)))))))))))))))))))) (.cons .non (.cons (.str _ (by decide+kernel) (by decide+kernel)) (.cons (.tup ((a1.trans (b1.trans (a2.trans (b2.trans (a3.trans (b3.trans (sL.trans (sa.trans (sb.trans (sc.trans (sd.trans (se.trans (sf.trans (sN.trans sQ)))))))))))))) _ _ k0) (y0.same (a1.trans (b1.trans (a2.trans (b2.trans (a3.trans (b3.trans (sL.trans (sa.trans (sb.trans (sc.trans (sd.trans (se.trans (sf.trans (sN.trans sQ)))))))))))))))) (.cons (.tup ((a2.trans (b2.trans (a3.trans (b3.trans (sL.trans (sa.trans (sb.trans (sc.trans (sd.trans (se.trans (sf.trans (sN.trans sQ)))))))))))) _ _ k1) (y1.same (a2.trans (b2.trans (a3.trans (b3.trans (sL.trans (sa.trans (sb.trans (sc.trans (sd.trans (se.trans (sf.trans (sN.trans sQ)))))))))))))) (.cons (.tup ((a3.trans (b3.trans (sL.trans (sa.trans (sb.trans (sc.trans (sd.trans (se.trans (sf.trans (sN.trans sQ)))))))))) _ _ k2) (y2.same (a3.trans (b3.trans (sL.trans (sa.trans (sb.trans (sc.trans (sd.trans (se.trans (sf.trans (sN.trans sQ)))))))))))) (.cons (.tup ((sL.trans (sa.trans (sb.trans (sc.trans (sd.trans (se.trans (sf.trans (sN.trans sQ)))))))) _ _ k3) (y3.same (sL.trans (sa.trans (sb.trans (sc.trans (sd.trans (se.trans (sf.trans (sN.trans sQ)))))))))) (.cons (ta.same (sb.trans (sc.trans (sd.trans (se.trans (sf.trans (sN.trans sQ))))))) (.cons (tb.same (sc.trans (sd.trans (se.trans (sf.trans (sN.trans sQ)))))) (.cons (.tup ((s1.trans (a0.trans (b0.trans (a1.trans (b1.trans (a2.trans (b2.trans (a3.trans (b3.trans (sL.trans (sa.trans (sb.trans (sc.trans (sd.trans (se.trans (sf.trans (sN.trans sQ))))))))))))))))) _ _ gM) (nv (oP (by decide)))) (.cons (tc.same (sd.trans (se.trans (sf.trans (sN.trans sQ))))) (.cons (td.same (se.trans (sf.trans (sN.trans sQ)))) (.cons (te.same (sf.trans (sN.trans sQ))) (.cons (.int _) (.cons (tf.same (sN.trans sQ)) .nil)))))))))))))));have bad:∀y∈(["Ann","","abcdefghi"]:List Str),nmD (.str y)=false:=by decide+kernel
 have lit:∀d∈([.tuple [.str "b",.str "a"],.tuple [.str "a",.str "a"],.tuple [.str "a b"],.tuple [.none],.tuple [.list [.str "a"]],.tuple [.str "a1"]]:List PyData),jR d=false/\d.depth<=2:=by decide+kernel
 have dap:∀d:PyData,d.depth=0->(PyData.tuple (ds++[d])).depth<=2:=fun d hd=>by show PyData.depthAll (ds++[d])+1<=2;rw[lj];show max _ (max d.depth 0)+1<=2;omega
 refine⟨_,rfl,_,rfl,c,42,15,rfl,by decide,by decide,fun k hk=>?_⟩
 obtain⟨v,d,hv,tv,d1,d2⟩:=tA.pickP (P:=fun d=>jR d=false/\d.depth<=2) hk (by
  intro d hd;simp only[Fd,List.not_mem_nil,or_false]at hd;rcases hd with e|e|e|e|e|e|e|e|e|e|e|e|e|e|e<;>subst e
  ·exact⟨rfl,by show PyData.depthAll ds+1<=2;omega⟩
  ·exact⟨rfl,EH _⟩
  ·exact⟨rfl,EH _⟩
  ·exact⟨qB (bad _ (by simp)),dap _ rfl⟩
  ·exact⟨qB (bad _ (by simp)),dap _ rfl⟩
  ·exact⟨qB (bad _ (by simp)),dap _ rfl⟩
  ·exact⟨qB rfl,dap _ rfl⟩
  ·exact lit _ (by simp)
  ·exact lit _ (by simp)
  ·refine⟨?_,by show PyData.depthAll _+1<=2;rw[rW];decide⟩;show(decide (((bA 0 0 13).map PyData.str).length<=12)&&(((bA 0 0 13).map PyData.str).all nmD&&rise (((bA 0 0 13).map PyData.str).map qy)))=false;rw[Ew,fJ];rfl
  ·exact lit _ (by simp)
  ·exact lit _ (by simp)
  ·exact lit _ (by simp)
  ·exact⟨rfl,EH _⟩
  ·exact lit _ (by simp))
 exact⟨lQ,_,_,_,rfl,rfl,SqL.of gQ,aB hv,q v d _ (sM.trans (s1.trans (a0.trans (b0.trans (a1.trans (b1.trans (a2.trans (b2.trans (a3.trans (b3.trans (sL.trans (sa.trans (sb.trans (sc.trans (sd.trans (se.trans (sf.trans (sN.trans sQ)))))))))))))))))) tv d1 d2⟩
def iF(K:Frag):Sp:=fun vs H Q _=>∃(c:Int)(x:Str),vs=[.int c,.str x]/\(x.cps.all (·<128)=true/\x.length<=100)/\PyData.canLay0 (.str x)=true/\∀v d H',aq H H'->TD H' d v->(d=.str x\/nmD d=false)->d.depth<=1->Q v H'
variable(bV:Df P w K mg base 2 "_law_bad_name" ["_law_cell","_law_ahead"] (iF K))
theorem mY:ay ["_law_cell","_law_ahead"] ["_law_cell","_law_ahead"] (ao (top 96)):=by trivial
include B av in
theorem m9(T:Tx K mg "_law_bad_name" (top 96) ["_law_cell","_law_ahead"]):Df P w K mg base 2 "_law_bad_name" ["_law_cell","_law_ahead"] (iF K):=by
 refine T.df mY (by rintro _ _ _ _ ⟨c,x,rfl,hx,lx,q⟩;rfl) ?_;rintro f _ A _ s H _ Q E hr ⟨c,x,rfl,hx,lx,q⟩;refine⟨_,(@ah _ _ _ _ _ (aS (aC aV (au av hr (@aa _ _ _ _ _ (pv 0) (@aa _ _ _ _ _ ae (@aa _ _ _ _ _ ae af rfl) rfl) rfl)) ae (aA _)) (@ai _ _ _ (@aw _ _ _ _ (pv 1))) aD) (@ai _ _ _ (@aw _ _ _ _ (@aF _ _ _ _ _ _ _ bH (@bK _ _ _ _ (@aa _ _ _ _ _ aO (@aa _ _ _ _ _ aO (@aa _ _ _ _ _ aO (@aa _ _ _ _ _ aO (@aa _ _ _ _ _ aO (@aa _ _ _ _ _ ae (@aa _ _ _ _ _ jg (@aa _ _ _ _ _ (@aJ _ _ _ _ _ (@ak _ _ _ _ _ (aW (by decide+kernel) (by decide+kernel)) aE rfl) (Et rfl)) (@aa _ _ _ _ _ (@eU _ _ _ _ (@ak _ _ _ _ _ (aW (by decide+kernel) (by decide+kernel)) aE rfl) (Et rfl)) (@aa _ _ _ _ _ aO (@aa _ _ _ _ _ eI (@aa _ _ _ _ _ (pv 1) af rfl) rfl) rfl) rfl) rfl) rfl) rfl) rfl) rfl) rfl) rfl) rfl)) (au av hr (@aa _ _ _ _ _ (pv 0) (@aa _ _ _ _ _ ae (@aa _ _ _ _ _ ae af rfl) rfl) rfl)) (fun _ _=>rfl))))),?_⟩;refine⟨_,rfl,c,54,2,rfl,by decide,by decide,fun k hk=>⟨rfl,_,rfl,?_⟩⟩;refine aT (fun _=>?_) (fun _=>?_)
 ·exact⟨_,rfl,q _ _ _ (aq.refl _) (.str x hx lx) (.inl rfl) (EH _)⟩
 ·refine fun v1 H1 s1 t1 v2 H2 s2 t2=>⟨_,rfl,aK rfl,fun l hl=>?_⟩;have u3:=aq.upd (o:=.lst [.str "",.str "abcdefghi",.str "Ann",.str "a b",.str "a1",.int 3,.non,v1,v2,.str "-",.bl true,.str x]) hl;have k3:(upd H2 l (.lst [.str "",.str "abcdefghi",.str "Ann",.str "a b",.str "a1",.int 3,.non,v1,v2,.str "-",.bl true,.str x])) l=some (.lst [.str "",.str "abcdefghi",.str "Ann",.str "a b",.str "a1",.int 3,.non,v1,v2,.str "-",.bl true,.str x]):=ag;generalize (upd H2 l (.lst [.str "",.str "abcdefghi",.str "Ann",.str "a b",.str "a1",.int 3,.non,v1,v2,.str "-",.bl true,.str x]))=H3 at u3 k3 ⊢;have td:TDs H3 [.str "",.str "abcdefghi",.str "Ann",.str "a b",.str "a1",.int 3,.none,.tuple [.str "a"],.list [.str "a"],.str "-",.bool true,.str x] [.str "",.str "abcdefghi",.str "Ann",.str "a b",.str "a1",.int 3,.non,v1,v2,.str "-",.bl true,.str x]:=
   .cons (.str _ (by decide+kernel) (by decide+kernel)) (.cons (.str _ (by decide+kernel) (by decide+kernel)) (.cons (.str _ (by decide+kernel) (by decide+kernel)) (.cons (.str _ (by decide+kernel) (by decide+kernel)) (.cons (.str _ (by decide+kernel) (by decide+kernel)) (.cons (.int _) (.cons .non (.cons (t1.same (s2.trans u3)) (.cons (t2.same u3) (.cons (.str _ (by decide+kernel) (by decide+kernel)) (.cons (.bl _) (.cons (.str x hx lx) .nil)))))))))))
  have bad:∀y∈(["","abcdefghi","Ann","a b","a1","-"]:List Str),nmD (.str y)=false:=by decide+kernel
  have all:∀d∈([.str "",.str "abcdefghi",.str "Ann",.str "a b",.str "a1",.int 3,.none,.tuple [.str "a"],.list [.str "a"],.str "-",.bool true,.str x]:List PyData),(d=.str x\/nmD d=false)/\d.depth<=1:=by
   intro d hd;simp only[Fd,List.not_mem_nil,or_false]at hd;rcases hd with e|e|e|e|e|e|e|e|e|e|e|e<;>subst e
   ·exact⟨.inr (bad _ (by simp)),EH _⟩
   ·exact⟨.inr (bad _ (by simp)),EH _⟩
   ·exact⟨.inr (bad _ (by simp)),EH _⟩
   ·exact⟨.inr (bad _ (by simp)),EH _⟩
   ·exact⟨.inr (bad _ (by simp)),EH _⟩
   ·exact⟨.inr rfl,EH _⟩
   ·exact⟨.inr rfl,EH _⟩
   ·exact⟨.inr rfl,Et rfl⟩
   ·exact⟨.inr rfl,Et rfl⟩
   ·exact⟨.inr (bad _ (by simp)),EH _⟩
   ·exact⟨.inr rfl,EH _⟩
   ·exact⟨.inl rfl,EH _⟩
  refine⟨_,rfl,c,43,12,rfl,by decide,by decide,fun k2 hk2=>?_⟩;obtain⟨d,hd⟩:∃d,([.str "",.str "abcdefghi",.str "Ann",.str "a b",.str "a1",.int 3,.none,.tuple [.str "a"],.list [.str "a"],.str "-",.bool true,.str x]:List PyData)[k2]?=some d:=⟨_,ER hk2⟩;obtain⟨v,hv,tv⟩:=td.at hd;obtain⟨a1,a2⟩:=all d (EY hd);exact⟨l,_,_,_,rfl,rfl,SqL.of k3,aB hv,q v d _ (s1.trans (s2.trans u3)) tv a1 a2⟩
def gD(K:Frag):Sp:=fun vs H Q _=>∃(c:Int)(ls:Addr)(ds:List PyData),vs=[.int c,.ref ls]/\TD H (.tuple ds) (.ref ls)/\jB (.tuple ds)=true/\PyData.depthAll ds<=2/\∀v d H',aq H H'->TD H' d v->jB d=false->d.depth<=3->Q v H'
variable(dR:Df P w K mg base 2 "_law_bad_shares" ["_law_cell","_law_good_here"] (gD K))
theorem cA:ay ["_law_cell","_law_good_here","_law_half","_law_some"] ["_law_cell","_law_good_here"] (ao (top 98)):=by trivial
include B av in
theorem kU(T:Tx K mg "_law_bad_shares" (top 98) ["_law_cell","_law_good_here"]):Df P w K mg base 2 "_law_bad_shares" ["_law_cell","_law_good_here"] (gD K):=by
 refine T.df cA (by rintro _ _ _ _ ⟨c,ls,ds,rfl,tS,hs,dep,q⟩;rfl) ?_;rintro f _ A _ s H _ Q E hr ⟨c,ls,ds,rfl,tS,hs,dep,q⟩
 refine⟨_,(@ah _ _ _ _ _ (@az _ _ 2 _ _ _ _ cA.nd rfl (by trivial) (@aJ _ _ _ _ _ (@ak _ _ _ _ _ aQ (@ak _ _ _ _ _ aQ aE rfl) rfl) (Et rfl)) rfl (by trivial)) (@ah _ _ _ _ _ (@az _ _ 3 _ _ _ _ cA.nd rfl (by trivial) (@nM _ _ _ bo _ _ (@aL _ _ _ _ bo _ _ bF (wy (g:=bo) (cJ iA (by rfl) B.list boot_list (aa (cE (g:=bo) (d:=fun ds=>PyData.tuple ds) (pv 1) vR) af))) (@aL _ _ _ _ bo _ _ bF (b8 (g:=bo) (@aJ _ _ _ _ _ aE (Et rfl))) (@aL _ _ _ _ bo _ _ bF (b8 (g:=bo) j7) (@aL _ _ _ _ bo _ _ bF (iO (g:=bo) bF (cE (g:=bo) (d:=fun ds=>PyData.tuple ds) (pv 1) vR) (mH (g:=bo) (cE (g:=bo) (d:=fun ds=>PyData.tuple ds) (pv 1) vR) cQ (cB ae) (fun _ _ _ q=>q) (fun _ _ _ q=>⟨_,rfl,q⟩)) zH) (@aL _ _ _ _ bo _ _ bF (@fB _ _ _ bo _ _ _ (@aL _ _ _ _ bo _ _ bF (@fB _ _ _ bo _ _ _ (@aL _ _ _ _ bo _ _ bF (b8 (g:=bo) (aW (by decide+kernel) (by decide+kernel))) (@aL _ _ _ _ bo _ _ bF (cE (g:=bo) (d:=fun _=>PyData.tuple [.int 1,.int 2]) (pv 2) mB) (dA (g:=bo)) rfl) rfl) (fun _=>Et rfl)) (dA (g:=bo)) rfl) (fun _=>Et rfl)) (@aL _ _ _ _ bo _ _ bF (@fB _ _ _ bo _ _ _ (@aL _ _ _ _ bo _ _ bF (b8 (g:=bo) (@aJ _ _ _ _ _ (@ak _ _ _ _ _ (aW (by decide+kernel) (by decide+kernel)) (@ak _ _ _ _ _ (@aJ _ _ _ _ _ (@ak _ _ _ _ _ aQ (@ak _ _ _ _ _ aQ aE rfl) rfl) (Et rfl)) aE rfl) rfl) (Et rfl))) (@aL _ _ _ _ bo _ _ bF (@fB _ _ _ bo _ _ _ (@aL _ _ _ _ bo _ _ bF (b8 (g:=bo) (aW (by decide+kernel) (by decide+kernel))) (@aL _ _ _ _ bo _ _ bF (cE (g:=bo) (d:=fun _=>PyData.tuple [.int 1,.int 2]) (pv 2) mB) (dA (g:=bo)) rfl) rfl) (fun _=>Et rfl)) (dA (g:=bo)) rfl) rfl) (fun _=>Et rfl)) (@aL _ _ _ _ bo _ _ bF (b8 (g:=bo) (@aJ _ _ _ _ _ (@ak _ _ _ _ _ (@aJ _ _ _ _ _ (@ak _ _ _ _ _ (aW (by decide+kernel) (by decide+kernel)) (@ak _ _ _ _ _ (@aJ _ _ _ _ _ (@ak _ _ _ _ _ aQ (@ak _ _ _ _ _ aQ aE rfl) rfl) (Et rfl)) (@ak _ _ _ _ _ aQ aE rfl) rfl) rfl) (Et rfl)) aE rfl) (Et rfl))) (dA (g:=bo)) rfl) rfl) rfl) rfl) rfl) rfl) rfl) (fun _=>Et rfl)) rfl (by trivial)) (@ah _ _ _ _ _ (@az _ _ 3 _ _ _ _ cA.nd rfl (by trivial) (aj mh (pv 3) (@nM _ _ _ bo _ _ (@aL _ _ _ _ bo _ _ bF (b8 (g:=bo) (@aJ _ _ _ _ _ (@ak _ _ _ _ _ (@aJ _ _ _ _ _ (@ak _ _ _ _ _ (aW (by decide+kernel) (by decide+kernel)) (@ak _ _ _ _ _ (@aJ _ _ _ _ _ (@ak _ _ _ _ _ aQ (@ak _ _ _ _ _ aQ aE rfl) rfl) (Et rfl)) aE rfl) rfl) (Et rfl)) aE rfl) (Et rfl))) (@aL _ _ _ _ bo _ _ bF (@fB _ _ _ bo _ _ _ (@aL _ _ _ _ bo _ _ bF (@fB _ _ _ bo _ _ _ (@aL _ _ _ _ bo _ _ bF (b8 (g:=bo) (aW (by decide+kernel) (by decide+kernel))) (@aL _ _ _ _ bo _ _ bF (cE (g:=bo) (d:=fun _=>PyData.tuple [.int 1,.int 2]) (pv 2) mB) (dA (g:=bo)) rfl) rfl) (fun _=>Et rfl)) (@aL _ _ _ _ bo _ _ bF (@fB _ _ _ bo _ _ _ (@aL _ _ _ _ bo _ _ bF (b8 (g:=bo) (aW (by decide+kernel) (by decide+kernel))) (@aL _ _ _ _ bo _ _ bF (cE (g:=bo) (d:=fun _=>PyData.tuple [.int 1,.int 2]) (pv 2) mB) (dA (g:=bo)) rfl) rfl) (fun _=>Et rfl)) (dA (g:=bo)) rfl) rfl) (fun _=>Et rfl)) (@aL _ _ _ _ bo _ _ bF (@fB _ _ _ bo _ _ _ (@aL _ _ _ _ bo _ _ bF (@fB _ _ _ bo _ _ _ (@aL _ _ _ _ bo _ _ bF (b8 (g:=bo) (aW (by decide+kernel) (by decide+kernel))) (@aL _ _ _ _ bo _ _ bF (cE (g:=bo) (d:=fun _=>PyData.tuple [.int 1,.int 2]) (pv 2) mB) (dA (g:=bo)) rfl) rfl) (fun _=>Et rfl)) (@aL _ _ _ _ bo _ _ bF (@fB _ _ _ bo _ _ _ (@aL _ _ _ _ bo _ _ bF (b8 (g:=bo) (aW (by decide+kernel) (by decide+kernel))) (@aL _ _ _ _ bo _ _ bF (cE (g:=bo) (d:=fun _=>PyData.tuple [.int 1,.int 2]) (pv 2) mB) (dA (g:=bo)) rfl) rfl) (fun _=>Et rfl)) (dA (g:=bo)) rfl) rfl) (fun _=>Et rfl)) (@aL _ _ _ _ bo _ _ bF (b8 (g:=bo) (@aJ _ _ _ _ _ (@ak _ _ _ _ _ (@eU _ _ _ _ (@ak _ _ _ _ _ (aW (by decide+kernel) (by decide+kernel)) (@ak _ _ _ _ _ (@aJ _ _ _ _ _ (@ak _ _ _ _ _ aQ (@ak _ _ _ _ _ aQ aE rfl) rfl) (Et rfl)) aE rfl) rfl) (Et rfl)) aE rfl) (Et rfl))) (dA (g:=bo)) rfl) rfl) rfl) rfl) (fun _=>Et rfl))) rfl (by trivial)) (@ah _ _ _ _ _ (@az _ _ 3 _ _ _ _ cA.nd rfl (by trivial) (aj mh (pv 3) (@eU _ _ _ _ (@ak _ _ _ _ _ (@aJ _ _ _ _ _ (@ak _ _ _ _ _ (@aJ _ _ _ _ _ (@ak _ _ _ _ _ (aW (by decide+kernel) (by decide+kernel)) (@ak _ _ _ _ _ (@eU _ _ _ _ (@ak _ _ _ _ _ aQ (@ak _ _ _ _ _ aQ aE rfl) rfl) (Et rfl)) aE rfl) rfl) (Et rfl)) aE rfl) (Et rfl)) (@ak _ _ _ _ _ (@aJ _ _ _ _ _ (@ak _ _ _ _ _ (@aJ _ _ _ _ _ (@ak _ _ _ _ _ aQ (@ak _ _ _ _ _ (@aJ _ _ _ _ _ (@ak _ _ _ _ _ aQ (@ak _ _ _ _ _ aQ aE rfl) rfl) (Et rfl)) aE rfl) rfl) (Et rfl)) aE rfl) (Et rfl)) (@ak _ _ _ _ _ (@aJ _ _ _ _ _ (@ak _ _ _ _ _ (@aJ _ _ _ _ _ (@ak _ _ _ _ _ (aW (by decide+kernel) (by decide+kernel)) (@ak _ _ _ _ _ (@aJ _ _ _ _ _ (@ak _ _ _ _ _ aQ (@ak _ _ _ _ _ aQ aE rfl) rfl) (Et rfl)) aE rfl) rfl) (Et rfl)) (@ak _ _ _ _ _ (@aJ _ _ _ _ _ (@ak _ _ _ _ _ (aW (by decide+kernel) (by decide+kernel)) (@ak _ _ _ _ _ (@aJ _ _ _ _ _ (@ak _ _ _ _ _ aQ (@ak _ _ _ _ _ aQ aE rfl) rfl) (Et rfl)) aE rfl) rfl) (Et rfl)) aE rfl) rfl) (Et rfl)) (@ak _ _ _ _ _ (@aJ _ _ _ _ _ (@ak _ _ _ _ _ (@aJ _ _ _ _ _ (@ak _ _ _ _ _ (aW (by decide+kernel) (by decide+kernel)) (@ak _ _ _ _ _ (@aJ _ _ _ _ _ (@ak _ _ _ _ _ uu (@ak _ _ _ _ _ aQ aE rfl) rfl) (Et rfl)) aE rfl) rfl) (Et rfl)) aE rfl) (Et rfl)) (@ak _ _ _ _ _ (aW (by decide+kernel) (by decide+kernel)) (@ak _ _ _ _ _ aQ aE rfl) rfl) rfl) rfl) rfl) rfl) (Et rfl))) rfl (by trivial)) (@ah _ _ _ _ _ (de (hX EU EW EV bY (pv 3) (@aa _ _ _ _ _ (cJ fk (by rfl) B.tuple boot_tuple (@aa _ _ _ _ _ (cV ["_law_k"] [] (jr _ []) rfl (by rfl) rfl (by trivial) (by trivial) (bT (by rfl)) (fC (by rfl)) mN mN (dZ (by decide)) (eT (by rfl) B.range (@aa _ _ _ _ _ ae af rfl)) (fun _ _ _ _=>bJ (i:=0) (show(["_law_k"]:List Str).Nodup by trivial) rfl (Or.inl rfl) (Or.inr rfl)) (fun _ _ _ _=>dE) (fun _ _ _ _=>(@bu _ _ _ _ _ (@aa _ _ _ _ _ (@aF _ _ _ _ _ _ _ rL aO (pv 0) (fun _ _=>rfl)) (@aa _ _ _ _ _ (@aJ _ _ _ _ _ (@ak _ _ _ _ _ aQ (@ak _ _ _ _ _ aQ aE rfl) rfl) (Et rfl)) af rfl) rfl)))) af rfl)) af rfl)))
  (@ah _ _ _ _ _ (de (hX EU EW EV bY (pv 3) (@aa _ _ _ _ _ (@aJ _ _ _ _ _ (@ak _ _ _ _ _ (@aJ _ _ _ _ _ (@ak _ _ _ _ _ (aW (by decide+kernel) (by decide+kernel)) (@ak _ _ _ _ _ (@aJ _ _ _ _ _ (@ak _ _ _ _ _ (eK (aj bC ae ae) fun _ _ _ q=>⟨_,_,rfl,rfl,⟨by decide,by decide,by decide⟩,q⟩) (@ak _ _ _ _ _ (eK (aj bf (aj bC ae ae) ae) fun _ _ _ q=>⟨_,_,rfl,rfl,⟨by decide,by decide,by decide⟩,_,_,rfl,rfl,q⟩) aE rfl) rfl) (Et rfl)) aE rfl) rfl) (Et rfl)) (@ak _ _ _ _ _ (@aJ _ _ _ _ _ (@ak _ _ _ _ _ (aW (by decide+kernel) (by decide+kernel)) (@ak _ _ _ _ _ (@aJ _ _ _ _ _ (@ak _ _ _ _ _ aQ (@ak _ _ _ _ _ (eK (aj bf (aj bC ae ae) ae) fun _ _ _ q=>⟨_,_,rfl,rfl,⟨by decide,by decide,by decide⟩,_,_,rfl,rfl,q⟩) aE rfl) rfl) (Et rfl)) aE rfl) rfl) (Et rfl)) aE rfl) rfl) (Et rfl)) af rfl))) (@ah _ _ _ _ _ (de (hX EU EW EV bY (pv 3) (@aa _ _ _ _ _ (@aJ _ _ _ _ _ (@ak _ _ _ _ _ (@aJ _ _ _ _ _ (@ak _ _ _ _ _ (aW (by decide+kernel) (by decide+kernel)) (@ak _ _ _ _ _ (@aJ _ _ _ _ _ (@ak _ _ _ _ _ aQ (@ak _ _ _ _ _ aQ aE rfl) rfl) (Et rfl)) aE rfl) rfl) (Et rfl)) (@ak _ _ _ _ _ (@aJ _ _ _ _ _ (@ak _ _ _ _ _ (aW (by decide+kernel) (by decide+kernel)) (@ak _ _ _ _ _ (@aJ _ _ _ _ _ (@ak _ _ _ _ _ (eK (iK gV ae) fun _ _ _ q=>⟨_,rfl,q⟩) (@ak _ _ _ _ _ aQ aE rfl) rfl) (Et rfl)) aE rfl) rfl) (Et rfl)) aE rfl) rfl) (Et rfl)) af rfl))) (@ai _ _ _ (@aw _ _ _ _ (@aF _ _ _ _ _ _ _ bH (pv 3) (au av hr (@aa _ _ _ _ _ (pv 0) (@aa _ _ _ _ _ ae (@aa _ _ _ _ _ ae af rfl) rfl) rfl)) (fun _ _=>rfl))))))))))),?_⟩
 have l12:ds.length<=12:=by have:(decide (1<=ds.length)&&decide (ds.length<=12)&&(ds.all fv&&(rise (ds.map hnm)&&decide (sumF (ds.map hpt)=(1,1)))))=true:=hs;simp only[EL,Ez]at this;exact this.1.2
 refine fun vh H0 s0 tH=>?_;refine⟨ds,⟨⟨_,rfl,tS.same s0⟩,⟨_,rfl,tH⟩,l12⟩,fun v1 H1 s1 t1=>?_⟩;obtain⟨l1,vs1,rfl,h1,z1⟩:=t1.lstE;refine⟨_,rfl,ds,⟨⟨_,rfl,tS.same (s0.trans s1)⟩,⟨_,rfl,tH.same s1⟩,l12⟩,fun v2 H2 s2 t2=>?_⟩;obtain⟨l2,vs2,rfl,h2,z2⟩:=t2.lstE;refine⟨l1,l2,_,_,rfl,rfl,s2 _ _ h1,h2,?_,fun l3 hl3=>?_⟩
 ·rw[z1.len,z2.len];exact Et rfl
 have s3:=aq.upd (o:=.lst (vs1++vs2)) hl3;have h3:(upd H2 l3 (.lst (vs1++vs2))) l3=some (.lst (vs1++vs2)):=ag;generalize (upd H2 l3 (.lst (vs1++vs2)))=H3 at s3 h3 ⊢;refine⟨_,rfl,fun v4 H4 s4 t4=>?_⟩;obtain⟨l4,vs4,rfl,h4,z4⟩:=t4.lstE;have z5:=(((z1.same s2).app z2).same (s3.trans s4)).app z4;refine⟨l3,l4,_,_,rfl,rfl,s4 _ _ h3,h4,?_,fun lQ hlQ=>?_⟩
 ·rw[EC,z1.len,z2.len,z4.len];exact Et rfl
 have n5:(vs1++vs2++vs4).length=17:=by rw[z5.len];rfl
 obtain⟨W,eW⟩:∃W,W=vs1++vs2++vs4:=⟨_,rfl⟩;rw[<-eW]at n5 z5 ⊢;have sQ:=aq.upd (o:=.lst W) hlQ;have gQ:(upd H4 lQ (.lst W)) lQ=some (.lst W):=ag;generalize (upd H4 lQ (.lst W))=HQ at sQ gQ ⊢;refine⟨_,rfl,.inl ⟨rfl,W,SqL.of gQ⟩,_,rfl,by decide,by decide,fun D hD=>?_⟩;refine qi (n:=13) (lo:=0) (fun i acc H6=>aq HQ H6/\H6 D=some (.lst acc)/\TDs H6 (gf (bA 0 0 i)) acc) ⟨aq.upd hD,ag,.nil⟩ ?_ ?_
 ·rintro i acc H6 hi ⟨s6,h6,z6⟩;rw[show(0:Int)+(i:Int)=((i:Nat):Int) by omega];refine iL ?_;intro kq1 kr1;have at_:atI (Str.ofString "abcdefghijklm").cps.toList ((i:Nat):Int)=some (97+i):=by
   have:∀k∈List.range 13,atI (Str.ofString "abcdefghijklm").cps.toList ((k:Nat):Int)=some (97+k):=(by decide+kernel);exact this i (FC.mpr hi)
  refine⟨_,rfl,_,_,_,rfl,rfl,by decide+kernel,at_,fun v7 H7 s7 t7=>⟨aK rfl,fun l8 hl8=>?_⟩⟩;have s8:=aq.upd (o:=.tup [.str ⟨#[97+i]⟩,v7]) hl8;have h8:=(s7.trans s8) _ _ h6;have nk:=(eJ 0 (k:=i) hi).1;have en:cC 0 i=⟨#[97+i]⟩:=rfl;rw[en]at nk;have td8:TD (upd H7 l8 (.tup [.str ⟨#[97+i]⟩,v7])) (.tuple [.str ⟨#[97+i]⟩,.tuple [.int 1,.int 13]]) (.ref l8):=.tup ag (.cons nk.td (.cons (t7.same s8) .nil));refine⟨h8,aM (by rw[z6.len];unfold gf;rw[Ew,fJ];omega),?_,ag,?_⟩
  ·exact aq.set hD (s6.trans (s7.trans s8))
  ·have e9:gf (bA 0 0 (i+1))=gf (bA 0 0 i)++[.tuple [.str ⟨#[97+i]⟩,.tuple [.int 1,.int 13]]]:=by
    unfold gf bA;rw[Gg,EK,EK];refine congrArg (fun z=>_++[PyData.tuple [.str z,.tuple [.int 1,.int 13]]]) ?_;show cC 0 (0+i)=_;rw[Nat.zero_add];rfl
   rw[e9];exact((z6.same (s7.trans s8)).keepL h8 (oO _)).app (.cons (td8.keepL h8 rfl) .nil)
 rintro acc H6 ⟨s6,h6,z6⟩;refine⟨D,_,rfl,.inl ⟨SqL.of h6,fun lM hlM=>?_⟩⟩;have sM:=s6.trans (aq.upd (o:=.tup acc) hlM);have tM:TD (upd H6 lM (.tup acc)) (.tuple (gf (bA 0 0 13))) (.ref lM):=.tup ag (z6.same (aq.upd hlM));generalize (upd H6 lM (.tup acc))=HM at sM tM ⊢;refine⟨lQ,W,_,rfl,rfl,sM _ _ gQ,aM (by omega),?_⟩;have sA:=aq.set (o:=.lst (W++[.ref lM])) hlQ (sQ.trans sM);have tA:=tM.keepL (ws:=W++[.ref lM]) (sM _ _ gQ) (oO _);have gA:(upd HM lQ (.lst (W++[.ref lM]))) lQ=some (.lst (W++[.ref lM])):=ag;generalize (upd HM lQ (.lst (W++[.ref lM])))=HA at sA tA gA ⊢;refine⟨_,rfl,.inl ⟨rfl,_,SqL.of gA⟩,fun vB HB sB tB=>?_⟩;refine⟨lQ,W++[.ref lM],_,rfl,rfl,sB _ _ gA,aM (by rw[EC,n5];exact Et rfl),?_⟩;have sC:=aq.set (o:=.lst (W++[.ref lM]++[vB])) hlQ (sA.trans sB);have tA:=(tA.same sB).keepL (ws:=W++[.ref lM]++[vB]) (sB _ _ gA) (oO _);have tB:=tB.keepL (ws:=W++[.ref lM]++[vB]) (sB _ _ gA) rfl;have gC:(upd HB lQ (.lst (W++[.ref lM]++[vB]))) lQ=some (.lst (W++[.ref lM]++[vB])):=ag;generalize (upd HB lQ (.lst (W++[.ref lM]++[vB])))=HC at sC tA tB gC ⊢;refine⟨_,rfl,.inl ⟨rfl,_,SqL.of gC⟩,fun vD HD sD tD=>?_⟩;refine⟨lQ,W++[.ref lM]++[vB],_,rfl,rfl,sD _ _ gC,aM (by rw[EC,EC,n5];exact Et rfl),?_⟩;have sE:=aq.set (o:=.lst (W++[.ref lM]++[vB]++[vD])) hlQ (sC.trans sD);have tA:=(tA.same sD).keepL (ws:=W++[.ref lM]++[vB]++[vD]) (sD _ _ gC) (oO _);have tB:=(tB.same sD).keepL (ws:=W++[.ref lM]++[vB]++[vD]) (sD _ _ gC) rfl;have tD:=tD.keepL (ws:=W++[.ref lM]++[vB]++[vD]) (sD _ _ gC) rfl;have gE:(upd HD lQ (.lst (W++[.ref lM]++[vB]++[vD]))) lQ=some (.lst (W++[.ref lM]++[vB]++[vD])):=ag;generalize (upd HD lQ (.lst (W++[.ref lM]++[vB]++[vD])))=HE at sE tA tB tD gE ⊢;have all:TDs HE (([.list ds,.tuple [],.none,.tuple (ds++cutD ds none (some 1)),.tuple [.tuple [.str "a",.tuple [.int 1,.int 2]]],.tuple [.tuple [.str "a",.tuple [.int 2,.int 4]],.tuple [.str "b",.tuple [.int 1,.int 2]]],.tuple [.tuple [.str "a",.tuple [.int 1,.int 1],.int 1]],.tuple [.tuple [.str "Ann",.tuple [.int 1,.int 1]]],.tuple [.tuple [.str "a",.tuple [.int 1,.int 2]],.tuple [.str "a",.tuple [.int 1,.int 2]]],.tuple [.tuple [.str "b",.tuple [.int 1,.int 2]],.tuple [.str "a",.tuple [.int 1,.int 2]]],.tuple [.list [.str "a",.tuple [.int 1,.int 1]]],.tuple [.tuple [.str "a",.list [.int 1,.int 1]]],.tuple [.tuple [.int 3,.tuple [.int 1,.int 1]]],.tuple [.tuple [.str "a",.tuple [.int 0,.int 1]],.tuple [.str "b",.tuple [.int 1,.int 1]]],.tuple [.tuple [.str "a",.tuple [.bool true,.int 1]]],.str "a",.int 1]:List PyData)++[.tuple (gf (bA 0 0 13))]++[_]++[_]) (W++[.ref lM]++[vB]++[vD]):=(((z5.same sE).app (.cons tA .nil)).app (.cons tB .nil)).app (.cons tD .nil);refine⟨_,rfl,_,rfl,c,45,20,rfl,by decide,by decide,fun k hk=>?_⟩;have lit:∀d∈([.tuple [],.none,.tuple [.tuple [.str "a",.tuple [.int 1,.int 2]]],.tuple [.tuple [.str "a",.tuple [.int 2,.int 4]],.tuple [.str "b",.tuple [.int 1,.int 2]]],.tuple [.tuple [.str "a",.tuple [.int 1,.int 1],.int 1]],.tuple [.tuple [.str "Ann",.tuple [.int 1,.int 1]]],.tuple [.tuple [.str "a",.tuple [.int 1,.int 2]],.tuple [.str "a",.tuple [.int 1,.int 2]]],.tuple [.tuple [.str "b",.tuple [.int 1,.int 2]],.tuple [.str "a",.tuple [.int 1,.int 2]]],.tuple [.list [.str "a",.tuple [.int 1,.int 1]]],.tuple [.tuple [.str "a",.list [.int 1,.int 1]]],.tuple [.tuple [.int 3,.tuple [.int 1,.int 1]]],.tuple [.tuple [.str "a",.tuple [.int 0,.int 1]],.tuple [.str "b",.tuple [.int 1,.int 1]]],.tuple [.tuple [.str "a",.tuple [.bool true,.int 1]]],.str "a",.int 1]++[.tuple [.tuple [.str "a",.tuple [.int (10^Int.toNat 9),.int (10^Int.toNat 9+1)]],.tuple [.str "b",.tuple [.int 1,.int (10^Int.toNat 9+1)]]],.tuple [.tuple [.str "a",.tuple [.int 3,.int 2]],.tuple [.str "b",.tuple [.int (-1),.int 2]]]]:List PyData),jB d=false/\d.depth<=3:=by decide+kernel
 obtain⟨v,d,hv,tv,d1,d2⟩:=all.pickP (P:=fun d=>jB d=false/\d.depth<=3) hk (by
  have dl:(PyData.list ds).depth<=3:=by show PyData.depthAll ds+1<=3;omega
  have dt:(PyData.tuple (ds++cutD ds none (some 1))).depth<=3:=by show PyData.depthAll (ds++cutD ds none (some 1))+1<=3;rw[lj];have:=rX none (some 1) dep;omega
  have d3:(PyData.tuple (gf (bA 0 0 13))).depth<=3:=Nat.succ_le_succ (zQ _);simp only[List.cons_append,FA,List.forall_mem_cons]at lit;obtain⟨a0,a1,a2,a3,a4,a5,a6,a7,a8,a9,a10,a11,a12,a13,a14,a15,a16,_⟩:=lit;simp only[List.cons_append,FA,List.forall_mem_cons]
  exact⟨⟨rfl,dl⟩,a0,a1,⟨xB hs,dt⟩,a2,a3,a4,a5,a6,a7,a8,a9,a10,a11,a12,a13,a14,⟨BQ 0 0,d3⟩,a15,a16,fun _ z=>nomatch z⟩)
 exact⟨lQ,_,_,_,rfl,rfl,SqL.of gE,aB hv,q v d _ (s0.trans (s1.trans (s2.trans (s3.trans (s4.trans sE))))) tv d1 d2⟩
def jE(K:Frag):Sp:=fun vs H Q _=>∃(c:Int)(r:Addr)(ds:List PyData)(x:Str)(ls:List Lk),vs=[.ref r,.int c]/\TD H (.tuple ds) (.ref r)/\ds[0]?=some (.str x)/\bE x=some ls/\ds.length=ls.length+1/\PyData.depthAll ds<=3/\∀v d H',aq H H'->TD H' d v->fu d=none->d.depth<=5->Q v H'
variable(fO:Df P w K mg base 2 "_law_no_row" ["_law_row","_law_cell"] (jE K))
theorem gX:ay ["_law_row","_law_cell","_law_some"] ["_law_row","_law_cell"] (ao (top 103)):=by trivial
include B av in
theorem pE(T:Tx K mg "_law_no_row" (top 103) ["_law_row","_law_cell"]):Df P w K mg base 2 "_law_no_row" ["_law_row","_law_cell"] (jE K):=by
 refine T.df gX (by rintro _ _ _ _ ⟨c,r,ds,x,ls,rfl,tR,h0,hx,ld,dep,q⟩;rfl) ?_;rintro f _ A _ s H _ Q E hr ⟨c,r,ds,x,ls,rfl,tR,h0,hx,ld,dep,q⟩;refine⟨_,(@ah _ _ _ _ _ (@az _ _ 2 _ _ _ _ gX.nd rfl (by trivial) (@nM _ _ _ bt _ _ (@aL _ _ _ _ bt _ _ bR (wy (g:=bt) (cJ iA (by rfl) B.list boot_list (aa (cE (g:=bt) (d:=fun ds=>PyData.tuple ds) (pv 0) fD) af))) (@aL _ _ _ _ bt _ _ bR (b8 (g:=bt) j7) (@aL _ _ _ _ bt _ _ bR (yC (g:=bt) (k:=0) (d:=fun ds=>thg ds 0) (cE (g:=bt) (d:=fun ds=>PyData.tuple ds) (pv 0) fD) ae (fun _ _=>rfl) rfl zI) (@aL _ _ _ _ bt _ _ bR (b8 (g:=bt) aQ) (@aL _ _ _ _ bt _ _ bR (b8 (g:=bt) (@aJ _ _ _ _ _ aE (Et rfl))) (@aL _ _ _ _ bt _ _ bR (b8 (g:=bt) (@eU _ _ _ _ aE (Et rfl))) (@aL _ _ _ _ bt _ _ bR (iO (g:=bt) bR (cE (g:=bt) (d:=fun ds=>PyData.tuple ds) (pv 0) fD) (b8 (g:=bt) (@aJ _ _ _ _ _ (@ak _ _ _ _ _ aQ aE rfl) (Et rfl))) Cq) (@aL _ _ _ _ bt _ _ bR (mH (g:=bt) (cE (g:=bt) (d:=fun ds=>PyData.tuple ds) (pv 0) fD) cQ (cB (iK gV ae)) (fun _ _ _ q=>q) (fun _ _ _ q=>⟨_,rfl,_,rfl,q⟩)) (@aL _ _ _ _ bt _ _ bR (iO (g:=bt) bR (b8 (g:=bt) (@aJ _ _ _ _ _ (@ak _ _ _ _ _ (aW (by decide+kernel) (by decide+kernel)) aE rfl) (Et rfl))) (mH (g:=bt) (cE (g:=bt) (d:=fun ds=>PyData.tuple ds) (pv 0) fD) (cB ae) cQ (fun _ _ _ q=>⟨_,rfl,q⟩) (fun _ _ _ q=>q)) (mD _ _)) (@aL _ _ _ _ bt _ _ bR (iO (g:=bt) bR (b8 (g:=bt) (@aJ _ _ _ _ _ (@ak _ _ _ _ _ (aW (by decide+kernel) (by decide+kernel)) aE rfl) (Et rfl))) (mH (g:=bt) (cE (g:=bt) (d:=fun ds=>PyData.tuple ds) (pv 0) fD) (cB ae) cQ (fun _ _ _ q=>⟨_,rfl,q⟩) (fun _ _ _ q=>q)) (mD _ _)) (@aL _ _ _ _ bt _ _ bR (b8 (g:=bt) uu) (dA (g:=bt)) rfl) rfl) rfl) rfl) rfl) rfl) rfl) rfl) rfl) rfl) rfl) (fun _=>Et rfl)) rfl (by trivial)) (@ah _ _ _ _ _ (@az _ _ 2 _ _ _ _ gX.nd rfl (by trivial) (aj mh (pv 2) (@nM _ _ _ bt _ _ (@aL _ _ _ _ bt _ _ bR (iO (g:=bt) bR (b8 (g:=bt) (@aJ _ _ _ _ _ (@ak _ _ _ _ _ aQ aE rfl) (Et rfl))) (mH (g:=bt) (cE (g:=bt) (d:=fun ds=>PyData.tuple ds) (pv 0) fD) (cB ae) cQ (fun _ _ _ q=>⟨_,rfl,q⟩) (fun _ _ _ q=>q)) (mD _ _)) (@aL _ _ _ _ bt _ _ bR (iO (g:=bt) bR (b8 (g:=bt) (@aJ _ _ _ _ _ (@ak _ _ _ _ _ j7 aE rfl) (Et rfl))) (mH (g:=bt) (cE (g:=bt) (d:=fun ds=>PyData.tuple ds) (pv 0) fD) (cB ae) cQ (fun _ _ _ q=>⟨_,rfl,q⟩) (fun _ _ _ q=>q)) (mD _ _)) (@aL _ _ _ _ bt _ _ bR (iO (g:=bt) bR (@fB _ _ _ bt _ _ _ (@aL _ _ _ _ bt _ _ bR (@nM _ _ _ bt _ _ (@aL _ _ _ _ bt _ _ bR (yC (g:=bt) (k:=0) (d:=fun ds=>thg ds 0) (cE (g:=bt) (d:=fun ds=>PyData.tuple ds) (pv 0) fD) ae (fun _ _=>rfl) rfl zI) (dA (g:=bt)) rfl) (fun _=>Et rfl)) (dA (g:=bt)) rfl) (fun _=>Et rfl)) (mH (g:=bt) (cE (g:=bt) (d:=fun ds=>PyData.tuple ds) (pv 0) fD) (cB ae) cQ (fun _ _ _ q=>⟨_,rfl,q⟩) (fun _ _ _ q=>q)) (mD _ _)) (@aL _ _ _ _ bt _ _ bR (@fB _ _ _ bt _ _ _ (@aL _ _ _ _ bt _ _ bR (b8 (g:=bt) (aW (by decide+kernel) (by decide+kernel))) (@aL _ _ _ _ bt _ _ bR (yC (g:=bt) (k:=1) (d:=fun ds=>thg ds 1) (cE (g:=bt) (d:=fun ds=>PyData.tuple ds) (pv 0) fD) ae (fun _ _=>rfl) rfl Cr) (dA (g:=bt)) rfl) rfl) (fun _=>Et rfl)) (@aL _ _ _ _ bt _ _ bR (iO (g:=bt) bR (b8 (g:=bt) (@aJ _ _ _ _ _ (@ak _ _ _ _ _ (aW (by decide+kernel) (by decide+kernel)) aE rfl) (Et rfl))) (mH (g:=bt) (cE (g:=bt) (d:=fun ds=>PyData.tuple ds) (pv 0) fD) (cB ae) (cB ae) (fun _ _ _ q=>⟨_,rfl,q⟩) (fun _ _ _ q=>⟨_,rfl,q⟩)) (mD _ _)) (dA (g:=bt)) rfl) rfl) rfl) rfl) rfl) (fun _=>Et rfl))) rfl (by trivial)) (@ai _ _ _ (@aw _ _ _ _ (@aF _ _ _ _ _ _ _ bH (pv 2) (au av hr (@aa _ _ _ _ _ (pv 1) (@aa _ _ _ _ _ ae (@aa _ _ _ _ _ ae af rfl) rfl) rfl)) (fun _ _=>rfl)))))),?_⟩;obtain⟨_,_,_,_,b4,b5⟩:=qS hx;have n2:2<=ds.length:=by omega
 have n13:ds.length<=13:=by omega
 refine⟨ds,⟨⟨_,rfl,tR⟩,n2,n13⟩,fun v1 H1 s1 t1=>?_⟩;obtain⟨l1,vs1,rfl,h1,z1⟩:=t1.lstE;refine⟨_,rfl,ds,⟨⟨_,rfl,tR.same s1⟩,n2,n13⟩,fun v2 H2 s2 t2=>?_⟩;obtain⟨l2,vs2,rfl,h2,z2⟩:=t2.lstE;refine⟨l1,l2,_,_,rfl,rfl,s2 _ _ h1,h2,?_,fun l3 hl3=>?_⟩
 ·rw[z1.len,z2.len];exact Et rfl
 have s3:=aq.upd (o:=.lst (vs1++vs2)) hl3;have h3:(upd H2 l3 (.lst (vs1++vs2))) l3=some (.lst (vs1++vs2)):=ag;generalize (upd H2 l3 (.lst (vs1++vs2)))=H3 at s3 h3 ⊢;have all:=((z1.same s2).app z2).same s3;have all:TDs H3 ([.list ds,.none,thg ds 0,.int 7,.tuple [],.list [],.tuple (ds++[.int 0]),.tuple (cutD ds none (some (-1))),.tuple ([.str "gift"]++cutD ds (some 1) none),.tuple ([.str ""]++cutD ds (some 1) none),.bool true]++[.tuple ([.int 3]++cutD ds (some 1) none),.tuple ([.none]++cutD ds (some 1) none),.tuple ([.list [thg ds 0]]++cutD ds (some 1) none),.tuple [.str "strike",thg ds 1],.tuple ([.str "paper"]++cutD ds (some 1) (some 4))]) (vs1++vs2):=all;refine⟨_,rfl,_,rfl,c,51,16,rfl,by decide,by decide,fun k hk=>?_⟩;obtain⟨n1,n2',n3,n4⟩:=AW;have e0:thg ds 0=.str x:=jQ h0;have d1:(thg ds 1).depth<=3:=EX (mF (fA (by omega))) dep
 obtain⟨v,d,hv,tv,f1,f2⟩:=all.pickP (P:=fun d=>fu d=none/\d.depth<=5) hk (by
  have dc:∀(e:PyData)(lo hi:Option Int),e.depth<=3->(PyData.tuple ([e]++cutD ds lo hi)).depth<=5:=fun e lo hi he=>by show PyData.depthAll ([e]++cutD ds lo hi)+1<=5;rw[lj];have:=rX lo hi dep;show max (max e.depth 0) _+1<=5;omega
  obtain⟨r',rfl⟩:∃r',ds=.str x::r':=by
   cases ds with
   |nil=>simp at h0
   |cons y r=>simp at h0;exact⟨r,by rw[h0]⟩
  rw[ES]at ld;have nr:r'≠[]:=fun z=>by rw[z,FH]at ld;omega
  obtain⟨rc,ec,lc⟩:=zS (y:=.str x) nr;simp only[List.cons_append,FA,List.forall_mem_cons];refine⟨⟨rfl,?_⟩,⟨rfl,EH _⟩,⟨rfl,EH _⟩,⟨rfl,EH _⟩,⟨rfl,Et rfl⟩,⟨rfl,Et rfl⟩,⟨kind_len hx ?_,?_⟩,⟨?_,?_⟩,⟨nB n1,dc _ _ _ (EH _)⟩,⟨nB n2',dc _ _ _ (EH _)⟩,⟨rfl,EH _⟩,⟨rfl,dc _ _ _ (EH _)⟩,⟨rfl,dc _ _ _ (EH _)⟩,⟨rfl,dc _ _ _ ?_⟩,⟨nB n3,?_⟩,⟨nB n4,dc _ _ _ (EH _)⟩,fun _ z=>nomatch z⟩
  ·show PyData.depthAll _+1<=5;omega
  ·rw[EC,Fq];omega
  ·show PyData.depthAll ((.str x::r')++[.int 0])+1<=5;rw[lj];show max _ (max 0 0)+1<=5;omega
  ·rw[ec];exact kind_len hx (by omega)
  ·show PyData.depthAll _+1<=5;have:=rX none (some (-1)) dep;omega
  ·exact Et rfl
  ·show max 0 (max (thg (.str x::r') 1).depth 0)+1<=5
   omega)
 exact⟨l3,_,_,_,rfl,rfl,SqL.of h3,aB hv,q v d _ (s1.trans (s2.trans s3)) tv f1 f2⟩
def mQ(K:Frag)(mg:Str->Option Value):Sp:=fun vs H Q E=>∃(x y:V)(n1 n2:String),vs=[x,y]/\dJ K H x (.type n1)/\dJ K H y (.type n2)/\((∃t b:Int,x=.int t/\y=.int b/\b≠0/\Bd 8000 b/\∀l p q,we t b p q->H l=none->Q (.ref l) (upd H l (.tup [.int p,.int q])))\/((isI x=false\/isI y=false\/y=.int 0)/\E (vX mg "BadFraction") none H))
variable(ir:DfE P w K mg base 3 "fraction" ["top","bottom"] (mQ K mg))
theorem tJ:ay ["top","bottom"] ["top","bottom"] (ao (top 21)):=by trivial
include B bM cN cX in
theorem t8(T:Tx K mg "fraction" (top 21) ["top","bottom"]):DfE P w K mg base 3 "fraction" ["top","bottom"] (mQ K mg):=by
 refine T.dfE tJ (by rintro _ _ _ _ ⟨x,y,n1,n2,rfl,ty1,ty2,q⟩;rfl) ?_;rintro f _ A _ s H _ Q E hr ⟨x,y,n1,n2,rfl,ty1,ty2,q⟩;refine bq ?_;intro kX;refine ar 2 (ai (aw (au bM hr (aa (pv 0) (aa (pv 1) af))))) ?_;intro kR2 pR2;refine ar 1 (ah (aS (aC aV (pv 1) ae (aA _)) (ai (tL (W:=fun H1=>E (.ref cZ) none H1) cX rfl (aa aO af) (fun _ _ _ _ _ _ _ I hx ee=>wo I hx ee))) aD) pR2) ?_;intro kR1 pR1;refine⟨_,(ah (aS ((iJ (cw (cn (au cN hr (aa (pv 0) af)))) (ip (cw (cn (au cN hr (aa (pv 1) af)))))).pt) (ai (tL (W:=fun H1=>E (.ref cZ) none H1) cX rfl (aa aO af) (fun _ _ _ _ _ _ _ I hx ee=>wo I hx ee))) aD) pR1),?_⟩;rcases q with⟨t,b,rfl,rfl,hb,bd,q⟩|⟨hz,q⟩
 ·refine⟨_,rfl,_,_,rfl,ty1,_,rfl,bP ?_⟩;refine⟨_,rfl,_,_,rfl,ty2,_,rfl,bP ?_⟩;refine⟨_,rfl,rfl,_,rfl,?_⟩;rw[EI (show ¬V.int b=V.int 0 from fun z=>hb (V.int.inj z))];refine bP ?_;refine⟨_,rfl,_,rfl,t,b,rfl,hb,bd,fun l p r hp hl=>?_⟩;exact q l p r hp hl
 ·rw[Br cX]at q;refine⟨_,rfl,_,_,rfl,ty1,_,rfl,?_⟩;cases e1:isI x with
  |false=>exact⟨aK rfl,q⟩
  |true=>
   refine bP ?_;refine⟨_,rfl,_,_,rfl,ty2,_,rfl,?_⟩;cases e2:isI y with
   |false=>exact⟨aK rfl,q⟩
   |true=>
    refine bP ?_;rcases hz with z|z|z
    ·rw[e1]at z;cases z
    ·rw[e2]at z;cases z
    ·subst z;exact⟨_,rfl,rfl,_,rfl,aK rfl,q⟩
def wA(K:Frag):Sp:=fun vs H Q _=>∃(x y:Addr)(t b u c:Int),vs=[.ref x,.ref y]/\SqT K H x [.int t,.int b]/\SqT K H y [.int u,.int c]/\(0<b/\0<c)/\(Bd 2000 t/\Bd 2000 b/\Bd 2000 u/\Bd 2000 c)/\∀l H',aq H H'->H' l=some (.tup [.int (frT (t*c+u*b) (b*c)),.int (frB (t*c+u*b) (b*c))])->Q (.ref l) H'
variable(rY:Df P w K mg base 3 "plus" ["one","other"] (wA K))
theorem Ax:ay ["one","other"] ["one","other"] (ao (top 22)):=by trivial
include B bM in
theorem AN(T:Tx K mg "plus" (top 22) ["one","other"]):Df P w K mg base 3 "plus" ["one","other"] (wA K):=by refine T.df Ax (by rintro _ _ _ _ ⟨x,y,t,b,u,c,rfl,hx,hy,⟨hb,hc⟩,⟨t1,t2,t3,t4⟩,q⟩;rfl) ?_;rintro f _ A _ s H _ Q E hr ⟨x,y,t,b,u,c,rfl,hx,hy,⟨hb,hc⟩,⟨t1,t2,t3,t4⟩,q⟩;refine⟨_,(ai (aw (au bM hr (aa (aj bf (aj qU (aF aG (pv 0) ae (fun _ _=>rfl)) (aF aG (pv 1) ae (fun _ _=>rfl))) (aj qU (aF aG (pv 1) ae (fun _ _=>rfl)) (aF aG (pv 0) ae (fun _ _=>rfl)))) (aa (aj qU (aF aG (pv 0) ae (fun _ _=>rfl)) (aF aG (pv 1) ae (fun _ _=>rfl))) af))))),?_⟩;have B20:∀{z:Int},Bd 2000 z->Bd 20000 z:=fun h=>h.mono (by decide);have hbc:0<b*c:=Int.mul_pos hb hc;have bdb:Bd 4000 (b*c):=t2.mul t4;refine⟨_,rfl,x,_,_,_,rfl,rfl,hx,(aB (j:=0) rfl),_,rfl,y,_,_,_,rfl,rfl,hy,(aB (j:=1) rfl),_,_,rfl,rfl,⟨B20 t1,B20 t4⟩,_,rfl,y,_,_,_,rfl,rfl,hy,(aB (j:=0) rfl),_,rfl,x,_,_,_,rfl,rfl,hx,(aB (j:=1) rfl),_,_,rfl,rfl,⟨B20 t3,B20 t2⟩,_,_,rfl,rfl,_,rfl,x,_,_,_,rfl,rfl,hx,(aB (j:=1) rfl),_,rfl,y,_,_,_,rfl,rfl,hy,(aB (j:=1) rfl),_,_,rfl,rfl,⟨B20 t2,B20 t4⟩,_,_,rfl,by omega,bdb.mono (by decide),fun l p r hp hl=>?_⟩;obtain⟨rfl,rfl⟩:=hp.fr hbc;exact q l _ (aq.upd hl) ag
def sZ(K:Frag):Sp:=fun vs H Q _=>∃(a:Addr)(w h c:Nat),vs=[.ref a,.int c]/\SqT K H a [.int w,.int h]/\(0<w/\w<=8/\h<=8)/\c<2^(w*h)/\∀H',aq H H'->Q (.int (mz w h c:Nat)) H'
variable(nF:Df P w K mg base 3 "grown" ["floor","cells"] (sZ K))
theorem i8:ay ["floor","cells","found","cell","near"] ["floor","cells"] (ao (top 25)):=by trivial
include B lJ lO in
theorem zm(T:Tx K mg "grown" (top 25) ["floor","cells"]):Df P w K mg base 3 "grown" ["floor","cells"] (sZ K):=by
 refine T.df i8 (by rintro _ _ _ _ ⟨a,w,h,c,rfl,hT,⟨hw,hw8,hh8⟩,hc,q⟩;rfl) ?_;rintro f _ A _ s H _ Q E hr ⟨a,w,h,c,rfl,hT,⟨hw,hw8,hh8⟩,hc,q⟩;refine bq ?_;intro kX;refine ar 2 (ai (aw (pv 2))) ?_;intro kR2 pR2;refine ar 1 (ah (je FG rfl (kP (au lJ hr (aa (pv 1) af))) (bJ (i:=3) i8.nd rfl (by trivial)) (ai (je FG rfl (kP (au lO hr (aa (pv 0) (aa (pv 3) af)))) (bJ (i:=4) i8.nd rfl (by trivial)) (ai (az (i:=2) i8.nd rfl (by trivial) (aj tP (pv 2) (aj cK ae (pv 4)))))))) pR2) ?_;intro kR1 pR1;refine⟨_,(ah (az (i:=2) i8.nd rfl (by trivial) (pv 1)) pR1),?_⟩;have hwh:w*h<=64:=Fw hw8 hh8;have hc64:c<2^64:=EB hc (EN (by decide) hwh);refine⟨_,rfl,_,rfl,c,rfl,hc64,fun l hl=>⟨l,rfl,⟨_,SqL.of ag⟩,?_⟩⟩;have s0:=aq.upd (o:=.lst ((gp c).map fun k:Nat=>V.int (k:Int))) hl;refine jl (K:=K) (a:=l) (xs:=(gp c).map fun k:Nat=>V.int (k:Int))
  (fun i σ H2=>∃o3 o4,σ=[some (.ref a),some (.int c),some (.int ((((gp c).take i).foldl (fun a k=>dY a (bX w h k)) c:Nat):Int)),o3,o4]/\aq (upd H l (.lst ((gp c).map fun k:Nat=>V.int (k:Int)))) H2)
  ⟨none,none,rfl,aq.refl _⟩ (fun i σ H2 _ ⟨_,_,_,s2⟩=>SqL.of (s2 _ _ ag)) ?_ ?_
 ·rintro i y σ H2 hi ⟨o3,o4,rfl,s2⟩;refine oX ?_;intro kD1;obtain⟨k,hk,rfl⟩:=get_map hi;have hkm:k∈gp c:=EY hk;have hkb:c.testBit k=true:=(j6 hc64).mp hkm;have hklt:k<w*h:=x9 hc hkb;have hT2:SqT K H2 a [.int w,.int h]:=(s0.trans s2).tup hT;refine⟨_,rfl,_,rfl,a,w,h,k,rfl,hT2,⟨by omega,by omega⟩,fun l2 hl2=>⟨l2,rfl,⟨_,SqL.of ag⟩,?_⟩⟩;rw[ud w h k];have s3:=aq.upd (o:=.lst (((bX w h k).map fun j:Nat=>(j:Int)).map V.int)) hl2;refine jl (K:=K) (a:=l2) (xs:=((bX w h k).map fun j:Nat=>(j:Int)).map V.int)
   (fun j σ H3=>∃o4,σ=[some (.ref a),some (.int c),some (.int ((dY (((gp c).take i).foldl (fun a k=>dY a (bX w h k)) c) ((bX w h k).take j):Nat):Int)),some (.int k),o4]/\aq (upd H2 l2 (.lst (((bX w h k).map fun j:Nat=>(j:Int)).map V.int))) H3)
   ⟨o4,rfl,aq.refl _⟩ (fun j σ H3 _ ⟨_,_,s4⟩=>SqL.of (s4 _ _ ag)) ?_ ?_
  ·rintro j y σ H3 hj ⟨o4',rfl,s4⟩;refine oX ?_;intro kD2;obtain⟨z,hz,rfl⟩:=uE hj;have hzm:z∈bX w h k:=EY hz;have hzlt:=rC hw hklt hzm;refine⟨_,rfl,_,rfl,_,_,rfl,rfl,⟨by omega,by omega,by decide⟩,_,_,rfl,rfl,?_⟩;simp only[or_eq];refine⟨some (.int z),?_,s4⟩;rw[FD,hz];simp[dY,List.foldl_append]
  ·rintro σ H3 ⟨o4',rfl,s4⟩;refine⟨some (.int k),o4',?_,s2.trans (s3.trans s4)⟩;simp only[Ew,FI];rw[FD,hk];simp[List.foldl_append]
 ·rintro σ H2 ⟨o3,o4,rfl,s2⟩;refine⟨_,rfl,?_⟩;have q':=q H2 (s0.trans s2);simp only[Ew,FI];exact q'
def nW(K:Frag):Sp:=fun vs H Q _=>∃(v:V)(d:PyData),vs=[v]/\TD H d v/\Q (.bl (wi 0 1000000000 d)) H
variable(cm:Df P w K mg base 3 "is_date" ["thing"] (nW K))
theorem vp:ay ["thing"] ["thing"] (ao (top 44)):=by trivial
include B aI dF in
theorem vH(T:Tx K mg "is_date" (top 44) ["thing"]):Df P w K mg base 3 "is_date" ["thing"] (nW K):=by refine T.df vp (by rintro _ _ _ _ ⟨v,d,rfl,hd,q⟩;rfl) ?_;rintro f _ A _ s H _ Q E hr ⟨v,d,rfl,hd,q⟩;refine⟨_,(ai (aw (au aI hr (aa (pv 0) (aa ae (aa (bw (v:=.int 1000000000) (by rfl) dF.choose_spec ⟨_,rfl⟩) af)))))),?_⟩;exact⟨_,rfl,v,d,0,1000000000,rfl,hd,q⟩
def iW(K:Frag):Sp:=spG K .num
variable(cH:Df P w K mg base 3 "good_number" ["floor","row","place"] (iW K))
theorem og:ay ["floor","row","place"] ["floor","row","place"] (ao (top 51)):=by trivial
include B aI cF in
theorem oJ(T:Tx K mg "good_number" (top 51) ["floor","row","place"]):Df P w K mg base 3 "good_number" ["floor","row","place"] (iW K):=by refine T.df og (by rintro _ _ _ _ ⟨fl,r,w,h,p,ds,rfl,hF,⟨hw,hw8⟩,⟨hh,hh8⟩,rr,⟨p1,pl⟩,pre,q⟩;rfl) ?_;rintro f _ A _ s H _ Q E hr ⟨fl,r,w,h,p,ds,rfl,hF,⟨hw,hw8⟩,⟨hh,hh8⟩,rr,⟨p1,pl⟩,pre,q⟩;refine⟨_,(ai (aw (au aI hr (aa (aF aG (pv 1) (pv 2) (fun _ _=>rfl)) (aa ae (aa (bw (v:=.int 1000000000) (by rfl) cF.choose_spec ⟨_,rfl⟩) af)))))),?_⟩;obtain⟨vs,v,hr1,ev,td,dep⟩:=rr.at pl;exact⟨_,rfl,_,rfl,r,_,_,_,rfl,rfl,SqT.of hr1,aB ev,v,_,1,1000000000,rfl,td,q _ (aq.refl _)⟩
def kF(K:Frag):Sp:=spG K .cell
variable(dI:Df P w K mg base 3 "good_cell" ["floor","row","place"] (kF K))
theorem qO:ay ["floor","row","place"] ["floor","row","place"] (ao (top 57)):=by trivial
include B aI in
theorem rq(T:Tx K mg "good_cell" (top 57) ["floor","row","place"]):Df P w K mg base 3 "good_cell" ["floor","row","place"] (kF K):=by refine T.df qO (by rintro _ _ _ _ ⟨fl,r,w,h,p,ds,rfl,hF,⟨hw,hw8⟩,⟨hh,hh8⟩,rr,⟨p1,pl⟩,pre,q⟩;rfl) ?_;rintro f _ A _ s H _ Q E hr ⟨fl,r,w,h,p,ds,rfl,hF,⟨hw,hw8⟩,⟨hh,hh8⟩,rr,⟨p1,pl⟩,pre,q⟩;refine⟨_,(ai (aw (au aI hr (aa (aF aG (pv 1) (pv 2) (fun _ _=>rfl)) (aa ae (aa (aj aZ (aj bN (aF aG (pv 0) ae (fun _ _=>rfl)) (aF aG (pv 0) ae (fun _ _=>rfl))) ae) af)))))),?_⟩;obtain⟨vs,v,hr1,ev,td,dep⟩:=rr.at pl;refine⟨_,rfl,_,rfl,r,_,_,_,rfl,rfl,SqT.of hr1,aB ev,_,rfl,fl,_,_,_,rfl,rfl,hF,aB (j:=0) rfl,_,rfl,fl,_,_,_,rfl,rfl,hF,aB (j:=1) rfl,_,_,rfl,rfl,.inl ⟨by omega,by omega⟩,_,_,rfl,rfl,v,_,0,_,rfl,td,q _ (aq.refl _)⟩
def kD(K:Frag):Sp:=spG K .line
variable(gS:Df P w K mg base 3 "good_line" ["floor","row","place"] (kD K))
theorem qM:ay ["floor","row","place"] ["floor","row","place"] (ao (top 60)):=by trivial
include B aI rR in
theorem rn(T:Tx K mg "good_line" (top 60) ["floor","row","place"]):Df P w K mg base 3 "good_line" ["floor","row","place"] (kD K):=by refine T.df qM (by rintro _ _ _ _ ⟨fl,r,w,h,p,ds,rfl,hF,⟨hw,hw8⟩,⟨hh,hh8⟩,rr,⟨p1,pl⟩,pre,q⟩;rfl) ?_;rintro f _ A _ s H _ Q E hr ⟨fl,r,w,h,p,ds,rfl,hF,⟨hw,hw8⟩,⟨hh,hh8⟩,rr,⟨p1,pl⟩,pre,q⟩;refine⟨_,(ai (aw (au aI hr (aa (aF aG (pv 1) (pv 2) (fun _ _=>rfl)) (aa ae (aa (bw (v:=.int 8) (by rfl) rR.choose_spec ⟨_,rfl⟩) af)))))),?_⟩;obtain⟨vs,v,hr1,ev,td,dep⟩:=rr.at pl;exact⟨_,rfl,_,rfl,r,_,_,_,rfl,rfl,SqT.of hr1,aB ev,v,_,0,8,rfl,td,q _ (aq.refl _)⟩
def iX(K:Frag):Sp:=spG K .grd
variable(fh:Df P w K mg base 3 "good_ground" ["floor","row","place"] (iX K))
theorem jc:ay ["floor","row","place","ground"] ["floor","row","place"] (ao (top 64)):=by trivial
include B aI iy jP Bf in
theorem oK(T:Tx K mg "good_ground" (top 64) ["floor","row","place"]):Df P w K mg base 3 "good_ground" ["floor","row","place"] (iX K):=by
 refine T.df jc (by rintro _ _ _ _ ⟨fl,r,w,h,p,ds,rfl,hF,⟨hw,hw8⟩,⟨hh,hh8⟩,rr,⟨p1,pl⟩,pre,q⟩;rfl) ?_;rintro f _ A _ s H _ Q E hr ⟨fl,r,w,h,p,ds,rfl,hF,⟨hw,hw8⟩,⟨hh,hh8⟩,rr,⟨p1,pl⟩,pre,q⟩;refine bq ?_;intro kX;refine ar 1 (ai (aw (cy (au aI hr (aa (pv 3) (aa ae (aa (au iy hr (aa (pv 0) af)) af)))) (bQ (pZ (ba aV (pv 3) ae (aA _)) (bQ (au jP hr (aa (pv 3) (aa (aF aG (pv 1) (bw (v:=.int 4) (by rfl) Bf.choose_spec ⟨_,rfl⟩) (fun _ _=>rfl)) af))))))))) ?_;intro kR1 pR1;refine⟨_,(ah (az (i:=3) jc.nd rfl (by trivial) (aF aG (pv 1) (pv 2) (fun _ _=>rfl))) pR1),?_⟩;obtain⟨vs,v,hr1,ev,td,dep⟩:=rr.at pl;refine⟨_,rfl,_,rfl,r,_,_,_,rfl,rfl,SqT.of hr1,aB ev,?_⟩;obtain⟨k,ek⟩:=pre;have l4:4<ds.length:=(ED.mp ek).1;obtain⟨vs',v4,hr4,ev4,td4,_⟩:=rr.at l4;rw[hr1]at hr4;cases hr4;have e4:thg ds 4=.int k:=by unfold thg;rw[ek];rfl
 rw[e4]at td4;cases td4;have e:lkB w h ds p .grd=(wi 0 ((2^(w*h)-1:Nat):Int) (thg ds p)&&(isZ (thg ds p)||o8 (thg ds p) (thg ds 4))):=rfl;rw[e]at q;refine⟨_,rfl,_,rfl,fl,w,h,rfl,hF,⟨hw8,hh8⟩,v,_,0,_,rfl,td,_,rfl,?_⟩;refine aT (fun z=>?_) (fun z=>?_)
 ·rw[z,E1]at q;obtain⟨i,ei,i0,i1⟩:=qv z;have zz:=vP td ⟨_,_,z⟩;refine⟨_,rfl,zz.1,_,rfl,?_⟩;rw[zz.2];refine aT (fun y=>?_) (fun y=>?_)
  ·rw[y,Bool.true_or]at q
   first|exact q _ (aq.refl _)|(rw[y];exact q _ (aq.refl _))
  ·rw[Fm]at y;rw[y,Bool.false_or,e4,ei]at q;rw[ei]at td;cases td;obtain⟨c,rfl⟩:=F7 i0;refine⟨_,rfl,_,rfl,r,_,_,_,rfl,rfl,SqT.of hr1,aB ev4,c,k,rfl,?_⟩;exact q _ (aq.refl _)
 ·rw[Fm]at z;rw[z,EO]at q;exact q _ (aq.refl _)
def iY(K:Frag):Sp:=spG K .amt
variable(fj:Df P w K mg base 3 "good_amount" ["floor","row","place"] (iY K))
theorem oh:ay ["floor","row","place"] ["floor","row","place"] (ao (top 67)):=by trivial
include B aI dm in
theorem oM(T:Tx K mg "good_amount" (top 67) ["floor","row","place"]):Df P w K mg base 3 "good_amount" ["floor","row","place"] (iY K):=by refine T.df oh (by rintro _ _ _ _ ⟨fl,r,w,h,p,ds,rfl,hF,⟨hw,hw8⟩,⟨hh,hh8⟩,rr,⟨p1,pl⟩,pre,q⟩;rfl) ?_;rintro f _ A _ s H _ Q E hr ⟨fl,r,w,h,p,ds,rfl,hF,⟨hw,hw8⟩,⟨hh,hh8⟩,rr,⟨p1,pl⟩,pre,q⟩;refine⟨_,(ai (aw (au aI hr (aa (aF aG (pv 1) (pv 2) (fun _ _=>rfl)) (aa ae (aa (bw (v:=.int 1000000000000) (by rfl) dm.choose_spec ⟨_,rfl⟩) af)))))),?_⟩;obtain⟨vs,v,hr1,ev,td,dep⟩:=rr.at pl;exact⟨_,rfl,_,rfl,r,_,_,_,rfl,rfl,SqT.of hr1,aB ev,v,_,0,1000000000000,rfl,td,q _ (aq.refl _)⟩
def kB(K:Frag):Sp:=spG K .note
variable(gP:Df P w K mg base 3 "good_note" ["floor","row","place"] (kB K))
theorem qK:ay ["floor","row","place"] ["floor","row","place"] (ao (top 70)):=by trivial
include B aI bI cF in
theorem rl(T:Tx K mg "good_note" (top 70) ["floor","row","place"]):Df P w K mg base 3 "good_note" ["floor","row","place"] (kB K):=by
 refine T.df qK (by rintro _ _ _ _ ⟨fl,r,w,h,p,ds,rfl,hF,⟨hw,hw8⟩,⟨hh,hh8⟩,rr,⟨p1,pl⟩,pre,q⟩;rfl) ?_;rintro f _ A _ s H _ Q E hr ⟨fl,r,w,h,p,ds,rfl,hF,⟨hw,hw8⟩,⟨hh,hh8⟩,rr,⟨p1,pl⟩,pre,q⟩;have hu:=hr.units;refine⟨_,(ai (aw (cy (au aI hr (aa (aF aG (pv 1) (pv 2) (fun _ _=>rfl)) (aa ae (aa (bw (v:=.int 1000000000) (by rfl) cF.choose_spec ⟨_,rfl⟩) af)))) (bQ (pZ (ba aV (aF aG (pv 1) (pv 2) (fun _ _=>rfl)) ae (aA _)) (bQ (ba (ou hu) (aF aG (pv 1) (bw (v:=.int 5) (by rfl) bI.choose_spec ⟨_,rfl⟩) (fun _ _=>rfl)) aO (aA _)))))))),?_⟩;obtain⟨vs,v,hr1,ev,td,dep⟩:=rr.at pl;obtain⟨vs',v5,hr5,ev5,td5,dep5⟩:=rr.at (show 5<ds.length from pre);rw[hr1]at hr5;cases hr5;have e:lkB w h ds p .note=(wi 0 1000000000 (thg ds p)&&(isZ (thg ds p)|| !PyData.eqv (thg ds 5) (.str "note"))):=rfl;rw[e]at q;refine⟨_,rfl,_,rfl,r,_,_,_,rfl,rfl,SqT.of hr1,aB ev,v,_,0,1000000000,rfl,td,_,rfl,?_⟩;refine aT (fun z=>?_) (fun z=>?_)
 ·rw[z,E1]at q;have zz:=vP td ⟨_,_,z⟩;refine⟨_,rfl,_,rfl,r,_,_,_,rfl,rfl,SqT.of hr1,aB ev,zz.1,_,rfl,?_⟩;rw[zz.2];refine aT (fun y=>?_) (fun y=>?_)
  ·rw[y,Bool.true_or]at q
   first|exact q _ (aq.refl _)|(rw[y];exact q _ (aq.refl _))
  ·rw[Fm]at y;rw[y,Bool.false_or]at q;exact⟨_,rfl,r,_,_,_,rfl,rfl,SqT.of hr1,aB ev5,_,_,td5.isD,.str _,td5.lay,ua,by decide,q _ (aq.refl _)⟩
 ·rw[Fm]at z;rw[z,EO]at q;exact q _ (aq.refl _)
def gZ(K:Frag):Sp:=fun vs H Q _=>∃(c:Int),vs=[.int c]/\∀l t b H',aq H H'->H' l=some (.tup [.int t,.int b])->eD (.tuple [.int t,.int b])=true->Q (.ref l) H'
variable(b6:Df P w K mg base 3 "_law_make_part" ["_law_cell"] (gZ K))
theorem hW:ay ["_law_cell","_law_bottom"] ["_law_cell"] (ao (top 88)):=by trivial
include B bz eV av in
theorem mn(T:Tx K mg "_law_make_part" (top 88) ["_law_cell"]):Df P w K mg base 3 "_law_make_part" ["_law_cell"] (gZ K):=by
 refine T.df hW (by rintro _ _ _ _ ⟨c,rfl,q⟩;rfl) ?_;rintro f _ A _ s H _ Q E hr ⟨c,rfl,q⟩;refine bq ?_;intro kX;refine ar 1 (ai (aw (au eV hr (aa (au bz hr (aa (aj cb (pv 0) ae) (aa ae (aa ae (aa (pv 1) af))))) (aa (pv 1) af))))) ?_;intro kR1 pR1;refine⟨_,(ah (az (i:=1) hW.nd rfl (by trivial) (au bz hr (aa (pv 0) (aa ae (aa ae (aa (aF bH (bK (aa ae (aa (aj bC ae ae) af))) (au av hr (aa (pv 0) (aa ae (aa ae af)))) (fun _ _=>rfl)) af)))))) pR1),?_⟩;refine⟨_,rfl,_,_,rfl,rfl,⟨by decide,by decide,by decide⟩,aK rfl,fun l0 hl0=>?_⟩;have u0:=aq.upd (o:=.lst [.int 9,.int (10^9)]) hl0;have g0:(upd H l0 (.lst [.int 9,.int (10^9)])) l0=some (.lst [.int 9,.int (10^9)]):=ag;refine⟨_,rfl,c,10,2,rfl,by decide,by decide,fun k2 hk2=>?_⟩;obtain⟨m,em,hm,hm2⟩:∃m:Int,atI [V.int 9,.int (10^9)] ((k2:Nat):Int)=some (.int m)/\1<=m/\m<=1000000000:=by
  rcases (show k2=0\/k2=1 by omega)with e|e<;>rw[e]
  ·exact⟨9,rfl,by decide,by decide⟩
  ·exact⟨10^9,rfl,by decide,by decide⟩
 refine⟨l0,_,_,_,rfl,rfl,SqL.of g0,em,c,1,m,9,rfl,by decide,hm,fun b H1 s1 b1 b2=>?_⟩;refine⟨_,rfl,_,_,rfl,rfl,⟨by decide,by decide⟩,_,rfl,c / 7,1,b,11,rfl,by decide,b1,fun t H2 s2 t1 t2=>?_⟩;refine⟨_,rfl,t,b,rfl,by omega,by omega,(zY (by omega) (by omega)).mono (by decide),fun l hl=>?_⟩;exact q l _ _ _ ((u0.trans (s1.trans s2)).trans (aq.upd hl)) ag (wL t1 t2 (by omega))
def fX(K:Frag):Sp:=fun vs H Q _=>∃(c w:Int),vs=[.int c,.int w]/\∀l ds H',aq H H'->TD H' (.tuple ds) (.ref l)->jB (.tuple ds)=true->ds.length<=12->PyData.depthAll ds<=2->Q (.ref l) H'
variable(du:Df P w K mg base 3 "_law_make_shares" ["_law_cell","_law_way"] (fX K))
theorem cP:ay ["_law_cell","_law_way","_law_names","_law_weights"] ["_law_cell","_law_way"] (ao (top 89)):=by trivial
include B bS av bg eV uN in
theorem jU(T:Tx K mg "_law_make_shares" (top 89) ["_law_cell","_law_way"]):Df P w K mg base 3 "_law_make_shares" ["_law_cell","_law_way"] (fX K):=by
 refine T.df cP (by rintro _ _ _ _ ⟨c,w,rfl,q⟩;rfl) ?_;rintro f _ A _ s H _ Q E hr ⟨c,w,rfl,q⟩;have hu:=hr.units
 refine⟨_,(@ah _ _ _ _ _ (@az _ _ 2 _ _ _ _ cP.nd rfl (by trivial) (au bS hr (@aa _ _ _ _ _ (pv 0) (@aa _ _ _ _ _ (pv 1) (@aa _ _ _ _ _ ae af rfl) rfl) rfl)) rfl (by trivial)) (bj (aS (aC (mf hu) (pv 2) (@bK _ _ _ _ af) (aA _)) (@ai _ _ _ (@az _ _ 2 _ _ _ _ cP.nd rfl (by trivial) (@bK _ _ _ _ (@aa _ _ _ _ _ (au bg hr (@aa _ _ _ _ _ (au av hr (@aa _ _ _ _ _ (pv 0) (@aa _ _ _ _ _ ae (@aa _ _ _ _ _ ae af rfl) rfl) rfl)) (@aa _ _ _ _ _ (pv 1) af rfl) rfl)) af rfl)) rfl (by trivial))) aD) (@ah _ _ _ _ _ (@az _ _ 3 _ _ _ _ cP.nd rfl (by trivial) (cV ["_law_k"] [("_law_cell",0)] (jr _ ["_law_cell"]) rfl (by rfl) rfl (by trivial) (by trivial) (bT (by rfl)) (fC (by rfl)) (mC ⟨rfl,rfl⟩ mN) (mC rfl mN) (dZ (by decide)) (eT (by rfl) B.range (@aa _ _ _ _ _ (aP br (by rfl) B.len Fv (@aa _ _ _ _ _ (pv 2) af rfl)) af rfl)) (fun _ _ _ _=>bJ (i:=0) (show(["_law_k","_law_cell"]:List Str).Nodup by trivial) rfl (Or.inl rfl) (Or.inr rfl)) (fun _ _ _ _=>dE) (fun _ _ _ _=>(aj bf ae (au av hr (@aa _ _ _ _ _ (pv 1) (@aa _ _ _ _ _ (aj bf ae (pv 0)) (@aa _ _ _ _ _ ae af rfl) rfl) rfl))))) rfl (by trivial))
  (bj (aS (aC aV (au av hr (@aa _ _ _ _ _ (pv 0) (@aa _ _ _ _ _ ae (@aa _ _ _ _ _ ae af rfl) rfl) rfl)) ae (aA _)) (@ai _ _ _ (yV (aj aZ (aj bC ae ae) (aP (qj rfl) (by rfl) uN boot_sum (@aa _ _ _ _ _ (eG As (pv 3) (cB ae) cQ) af rfl))) (B1 (pv 3) ae set_list))) aD) (@ai _ _ _ (@aw _ _ _ _ (cJ fk (by rfl) B.tuple boot_tuple (@aa _ _ _ _ _ (cV ["_law_k"] [("_law_names",2),("_law_weights",3)] (jr _ ["_law_weights","_law_names"]) rfl (by rfl) rfl (by trivial) (by trivial) (bT (by rfl)) (fC (by rfl)) (mC ⟨rfl,rfl⟩ (mC ⟨rfl,rfl⟩ mN)) (mC rfl (mC rfl mN)) (dZ (by decide)) (eT (by rfl) B.range (@aa _ _ _ _ _ (aP br (by rfl) B.len Fv (@aa _ _ _ _ _ (pv 2) af rfl)) af rfl)) (fun _ _ _ _=>bJ (i:=0) (show(["_law_k","_law_names","_law_weights"]:List Str).Nodup by trivial) rfl (Or.inl rfl) (Or.inr rfl)) (fun _ _ _ _=>dE) (fun _ _ _ _=>(@bu _ _ _ _ _ (@aa _ _ _ _ _ (@aF _ _ _ _ _ _ _ (uz (K:=K) rfl) (pv 1) (pv 0) (fun _ _=>rfl)) (@aa _ _ _ _ _ (au eV hr (@aa _ _ _ _ _ (@aF _ _ _ _ _ _ _ (uz (K:=K) rfl) (pv 2) (pv 0) (fun _ _=>rfl)) (@aa _ _ _ _ _ (aP (vY (K:=K) rfl rfl) (by rfl) uN boot_sum (@aa _ _ _ _ _ (pv 2) af rfl)) af rfl) rfl)) af rfl) rfl)))) af rfl)))))))),?_⟩
 refine⟨_,rfl,_,rfl,c,w,rfl,fun l0 f0 m0 H1 s1 fm0 m12 h1=>?_⟩;refine⟨fun σ' H'=>∃(l:Addr)(ns:List Str),σ'=[some (.int c),some (.int w),some (.ref l),none]/\aq H H'/\H' l=some (.lst (ns.map V.str))/\1<=ns.length/\ns.length<=12/\(∀x∈ns,lU x)/\rise ns=true,?_,?_⟩
 ·refine dW ?_;intro kD1;have td0:TDs H1 ((bA w f0 m0).map PyData.str) ((bA w f0 m0).map V.str):=nv (oP fm0);refine⟨_,rfl,aK rfl,fun le hle=>?_⟩;have ue:=aq.upd (o:=.lst []) hle;refine⟨_,_,(TD.lst (ue _ _ h1) (td0.same ue)).isD,(TD.lst ag .nil).isD,(TD.lst (ue _ _ h1) (td0.same ue)).lay,rfl,by decide,_,rfl,?_⟩;cases m0 with
  |zero=>refine fL ?_;refine⟨_,rfl,c,12,13,rfl,by decide,by decide,fun k hk=>?_⟩;refine⟨_,rfl,k,w,rfl,hk,aK rfl,fun l2 hl2=>?_⟩;exact⟨l2,[cC w k],rfl,s1.trans (ue.trans (aq.upd hl2)),ag,EG 1,Et rfl,fun x hx=>by rw[Fy.mp hx];exact(eJ w hk).1,rfl⟩
  |succ m=>
   have e:PyData.eqv (.list ((bA w f0 (m+1)).map PyData.str)) (.list [])=false:=by unfold bA;rw[List.range_succ_eq_map];rfl
   rw[e];exact bP ⟨l0,bA w f0 (m+1),rfl,s1.trans ue,ue _ _ h1,by rw[fJ];omega,by rw[fJ];omega,oP fm0,ub fm0⟩
 rintro σ' H2 ⟨l,ns,rfl,s2,h2,n1,n12,nok,nri⟩;refine⟨_,rfl,l,_,rfl,.inl (SqL.of h2),_,rfl,by rw[Ew];omega,by rw[Ew];omega,fun D hD=>?_⟩;rw[Ew,ET];refine qi (n:=ns.length) (lo:=0) (fun i acc H3=>∃ws:List Int,H3=upd H2 D (.lst acc)/\acc=ws.map V.int/\ws.length=i/\∀x∈ws,1<=x/\x<=1000) ⟨[],rfl,rfl,rfl,fun _ z=>nomatch z⟩ ?_ ?_
 ·rintro i acc H3 hi ⟨ws,rfl,rfl,lw,hw⟩;rw[show(0:Int)+(i:Int)=((i:Nat):Int) by omega];refine iL ?_;intro kq2 kr2;refine⟨_,rfl,_,rfl,_,_,rfl,rfl,c,13+i,1000,rfl,by decide,by omega,fun j hj=>?_⟩;refine⟨_,_,rfl,rfl,ag,?_,ws++[1+(j:Int)],?_,?_,?_,fun x hx=>?_⟩
  ·rw[Ew];exact aM (by omega)
  ·rw[c8]
  ·rw[EK];rfl
  ·rw[EC,lw];rfl
  ·rcases Ft.mp hx with y|y
   ·exact hw x y
   ·rw[Fy.mp y];omega
 rintro acc H3 ⟨ws,rfl,rfl,lw,hw⟩;have nD:l≠D:=fun e=>by rw[<-e,h2]at hD;cases hD
 have s3:=s2.trans (aq.upd (o:=.lst (ws.map V.int)) hD);have hl3:(upd H2 D (.lst (ws.map V.int))) l=some (.lst (ns.map V.str)):=by rw[aN nD];exact h2
 have hD3:(upd H2 D (.lst (ws.map V.int))) D=some (.lst (ws.map V.int)):=ag;have hDn:H D=none:=by
  cases e:H D with
  |none=>rfl
  |some o=>rw[s2 _ _ e]at hD;cases hD
 generalize (upd H2 D (.lst (ws.map V.int)))=H3 at s3 hl3 hD3 ⊢;refine⟨fun σ' H'=>∃ws':List Int,σ'=[some (.int c),some (.int w),some (.ref l),some (.ref D)]/\aq H H'/\H' l=some (.lst (ns.map V.str))/\H' D=some (.lst (ws'.map V.int))/\ws'.length=ns.length/\(∀x∈ws',0<x)/\ws'.sum<=1000000000,?_,?_⟩
 ·refine dW ?_;intro kD3;refine⟨_,rfl,c,30,3,rfl,by decide,by decide,fun k3 hk3=>⟨rfl,_,rfl,?_⟩⟩;have s9:=nN hw;refine aT (fun _=>?_) (fun _=>?_)
  ·obtain⟨x0,r0,rfl⟩:∃x0 r0,ws=x0::r0:=by
    cases ws with
    |nil=>rw[FH]at lw;omega
    |cons a b=>exact⟨a,b,rfl⟩
   have r9:=nN fun x hx=>hw x (EZ _ hx);rw[ES]at lw;have e5:jq ((x0::r0).map V.int) (some 1) none=r0.map V.int:=Bq;refine⟨_,_,rfl,rfl,⟨by decide,by decide,by decide⟩,_,rfl,_,rfl,D,_,rfl,SqL.of hD3,fun p5 hp5=>?_⟩;rw[e5];have n5:D≠p5:=fun e=>by rw[<-e,hD3]at hp5;cases hp5
   have n6:l≠p5:=fun e=>by rw[<-e,hl3]at hp5;cases hp5
   have hD5:(upd H3 p5 (.lst (r0.map V.int))) D=some (.lst ((x0::r0).map V.int)):=(by rw[aN n5];exact hD3);have h10:(10:Int)^(9:Int).toNat=1000000000:=(by decide+kernel);refine⟨p5,r0,rfl,SqL.of ag,_,_,rfl,rfl,_,rfl,D,_,_,0,rfl,rfl,hD5,A4 (j:=0) (by simp),?_⟩;refine⟨((10:Int)^(9:Int).toNat-r0.sum)::r0,rfl,?_,?_,?_,by rw[ES];exact lw,fun x hx=>?_,?_⟩
   ·exact aq.set hDn (s3.trans (aq.upd hp5))
   ·rw[aN nD,aN n6];exact hl3
   ·rw[ag];rfl
   ·rcases Fd.mp hx with e|e
    ·rw[e,h10];omega
    ·have:=hw x (EZ _ e);omega
   ·rw[List.sum_cons,h10];omega
  ·exact⟨ws,rfl,s3,hl3,hD3,lw,fun x hx=>by have:=hw x hx;omega,by omega⟩
 rintro σ' H4 ⟨ws2,rfl,s4,hl4,hD4,lw2,pos2,fin2⟩;obtain⟨L,eL⟩:∃L:Ws,L=ns.zip ws2:=⟨_,rfl⟩;obtain⟨f1,f2⟩:=Ah lw2;rw[<-eL]at f1 f2;have tw:gW L=ws2.sum:=by unfold gW;rw[f2]
 have lL:L.length=ns.length:=by have:=congrArg List.length f1;rw[Ew]at this;exact this
 have nm:∀p∈L,lU p.1:=fun p hp=>nok _ (by rw[<-f1];exact FX.mpr ⟨p,hp,rfl⟩);have ps:∀p∈L,0<p.2:=fun p hp=>pos2 _ (by rw[<-f2];exact FX.mpr ⟨p,hp,rfl⟩);have sok:=BP (L:=L) (by omega) (by omega) nm (by rw[f1];exact nri) ps (by rw[tw];exact fin2);have tpos:0<ws2.sum:=sX pos2 (fun e=>by rw[e,FH]at lw2;omega);have bdT:Bd 8000 ws2.sum:=(zY (by omega) (by omega)).mono (by decide);refine⟨_,rfl,l,_,rfl,.inl (SqL.of hl4),_,rfl,by rw[Ew];omega,by rw[Ew];omega,fun A5 hA5=>?_⟩;rw[Ew,ET];refine qi (n:=ns.length) (lo:=0) (fun i acc H5=>aq H4 H5/\H5 A5=some (.lst acc)/\Paired (WdE ws2.sum H5) acc (L.take i)) ⟨aq.upd hA5,ag,.nil⟩ ?_ ?_
 ·rintro i acc H5 hi ⟨s5,h5,pr5⟩;rw[show(0:Int)+(i:Int)=((i:Nat):Int) by omega];refine iL ?_;intro kq4 kr4;obtain⟨p,hp⟩:∃p,L[i]?=some p:=⟨_,ER (by omega)⟩;have a1:atI (ns.map V.str) ((i:Nat):Int)=some (.str p.1):=aB (by rw[<-f1,E8,E8,hp];rfl);have a2:atI (ws2.map V.int) ((i:Nat):Int)=some (.int p.2):=aB (by rw[<-f2,E8,E8,hp];rfl);have wp:=ps p (EY hp);refine⟨_,rfl,_,rfl,l,_,_,_,rfl,rfl,SqL.of (s5 _ _ hl4),a1,?_⟩;refine⟨_,rfl,_,rfl,D,_,_,_,rfl,rfl,SqL.of (s5 _ _ hD4),a2,_,rfl,D,ws2,rfl,SqL.of (s5 _ _ hD4),_,_,rfl,tpos,wp,bdT,fun l6 hl6=>?_⟩;refine⟨aK rfl,fun l7 hl7=>?_⟩;have s7:=(aq.upd (o:=.tup [.int (frT p.2 ws2.sum),.int (frB p.2 ws2.sum)]) hl6).trans (aq.upd (o:=.tup [.str p.1,.ref l6]) hl7);have h7:=s7 _ _ h5;have tk7:=TK.lst (o:=.lst (acc++[.ref l7])) h7;have lacc:acc.length<sizeLine:=by
   rw[Paired.length pr5,E9];exact aM (by omega)
  refine⟨h7,lacc,?_,ag,?_⟩
  ·exact fun b o e=>by rw[aN (fun z=>by rw[z,hA5]at e;cases e)];exact s7 _ _ (s5 _ _ e)
  ·rw[FD,hp,FN];have n67:l6≠l7:=fun e=>by rw[<-e,ag]at hl7;cases hl7
   exact Paired.app (Paired.imp (fun _ _ z=>(z.tk s7.tk).tk tk7) pr5) (.cons (WdE.tk tk7 ⟨l7,l6,rfl,ag,by rw[aN n67];exact ag⟩) .nil)
 ·rintro acc H5 ⟨s5,h5,pr5⟩;rw[<-lL,FI]at pr5;refine⟨A5,_,rfl,.inl ⟨SqL.of h5,fun l9 hl9=>?_⟩⟩;have td:=CL (Paired.imp (fun _ _ z=>z.tk (aq.upd (o:=.tup acc) hl9).tk) pr5) nm;rw[<-tw]at td;exact q l9 (wdD (gW L) L) _ (s4.trans (s5.trans (aq.upd hl9))) (.tup ag td) sok (by unfold wdD;rw[Ew];omega) (wt _ _)
def gY(K:Frag):Sp:=fun vs H Q _=>∃(c:Int)(w h:Nat),vs=[.int c,.int (w:Nat),.int (h:Nat)]/\(0<w/\w<=8)/\(0<h/\h<=8)/\∀(p:Nat) H',aq H H'->jh w h (.int (p:Nat))=true->Q (.int (p:Nat)) H'
variable(bZ:Df P w K mg base 3 "_law_one_piece" ["_law_cell","_law_wide","_law_high"] (gY K))
theorem eQ:ay ["_law_cell","_law_wide","_law_high","_law_at","_law_ground"] ["_law_cell","_law_wide","_law_high"] (ao (top 90)):=by trivial
include B gI bL in
theorem mm(T:Tx K mg "_law_one_piece" (top 90) ["_law_cell","_law_wide","_law_high"]):Df P w K mg base 3 "_law_one_piece" ["_law_cell","_law_wide","_law_high"] (gY K):=by
 refine T.df eQ (by rintro _ _ _ _ ⟨c,w,h,rfl,⟨hw,hw8⟩,⟨hh,hh8⟩,q⟩;rfl) ?_;rintro f _ A _ s H _ Q E hr ⟨c,w,h,rfl,⟨hw,hw8⟩,⟨hh,hh8⟩,q⟩;refine bq ?_;intro kX;refine ar 2 (ai (aw (au gI hr (aa (pv 1) (aa (pv 2) (aa (pv 4) (aa (pv 3) af))))))) ?_;intro kR2 pR2;refine ar 1 (ah (az (i:=4) eQ.nd rfl (by trivial) (aj tP (au bL hr (aa (pv 0) (aa (pv 1) (aa (pv 2) af)))) (aj cK ae (pv 3)))) pR2) ?_;intro kR1 pR1;refine⟨_,(ah (az (i:=3) eQ.nd rfl (by trivial) (aj aY (aj cb (pv 0) ae) (aj bN (pv 1) (pv 2)))) pR1),?_⟩;have hwh:w*h<=64:=Fw hw8 hh8;have hwp:0<w*h:=Nat.mul_pos hw hh;have e1:((w:Int)*(h:Int))=((w*h:Nat):Int):=by simp
 have m0:=E5 (c / 11) (show((w:Int)*(h:Int))≠0 by rw[e1];omega);have m1:=E3 (c / 11) (show 0<((w:Int)*(h:Int)) by rw[e1];omega);refine⟨_,rfl,_,_,rfl,rfl,⟨by decide,by decide⟩,_,rfl,_,rfl,_,_,rfl,rfl,.inl ⟨by omega,by omega⟩,_,_,rfl,rfl,(by show 0<((w:Nat):Int)*((h:Nat):Int);rw[e1];omega),?_⟩;obtain⟨k,ek⟩:=F7 m0;have hk:k<w*h:=by omega
 have ek':(c / 11) % (((w:Nat):Int)*((h:Nat):Int))=((k:Nat):Int):=ek;simp only[ek'];refine⟨_,rfl,_,rfl,_,rfl,c,w,h,rfl,⟨hw,hw8,hh,hh8⟩,fun g H1 hg s1=>?_⟩;refine⟨_,rfl,_,_,rfl,rfl,⟨by omega,by omega,by decide⟩,_,_,rfl,rfl,?_⟩;have hg':g||| 2^k<2^(w*h):=Nat.or_lt_two_pow hg (Nat.pow_lt_pow_right (by decide) hk);refine⟨_,rfl,_,rfl,_,rfl,_,rfl,w,h,g||| 2^k,k,?_,⟨hw,hw8,hh8⟩,hg',?_,fun p H2 isC s2=>?_⟩
 ·show[_,_,V.int (Builtin.bitOr ((g:Nat):Int) (1*2^((k:Nat):Int).toNat)),_]=_;rw[zd]
 ·rw[FK,Nat.testBit_two_pow_self,Bool.or_true]
 ·exact q p _ (s1.trans s2) (zj hw hwh hg' isC (by rw[FK,Nat.testBit_two_pow_self,Bool.or_true]))
def mI(K:Frag):Sp:=fun vs H Q _=>∃(c:Int)(k w h:Nat),vs=[.int c,.int (k:Nat),.int (w:Nat),.int (h:Nat)]/\(0<w/\w<=8)/\(0<h/\h<=8)/\k<w*h/\∀l vg vt dg dt H',aq H H'->H' l=some (.tup [vg,vt])->TD H' dg vg->TD H' dt vt->dg.depth=0->dt.depth=0->(wi 0 ((2^(w*h)-1:Nat):Int) dg=true/\(isZ dg||o8 dg (.int (k:Nat)))=true/\trD dt=true)->Q (.ref l) H'
variable(gm:Df P w K mg base 3 "_law_tail" ["_law_cell","_law_at","_law_wide","_law_high"] (mI K))
theorem i6:ay ["_law_cell","_law_at","_law_wide","_law_high","_law_ground","_law_trust"] ["_law_cell","_law_at","_law_wide","_law_high"] (ao (top 91)):=by trivial
include B av bL in
theorem tQ(T:Tx K mg "_law_tail" (top 91) ["_law_cell","_law_at","_law_wide","_law_high"]):Df P w K mg base 3 "_law_tail" ["_law_cell","_law_at","_law_wide","_law_high"] (mI K):=by
 refine T.df i6 (by rintro _ _ _ _ ⟨c,k,w,h,rfl,⟨hw,hw8⟩,⟨hh,hh8⟩,hk,q⟩;rfl) ?_;rintro f _ A _ s H _ Q E hr ⟨c,k,w,h,rfl,⟨hw,hw8⟩,⟨hh,hh8⟩,hk,q⟩;refine⟨_,(@ah _ _ _ _ _ (@az _ _ 4 _ _ _ _ i6.nd rfl (by trivial) (@aF _ _ _ _ _ _ _ bH (@bK _ _ _ _ (@aa _ _ _ _ _ ae (@aa _ _ _ _ _ (aj aZ (aj cK ae (aj bN (pv 2) (pv 3))) ae) (@aa _ _ _ _ _ (aj tP (au bL hr (@aa _ _ _ _ _ (pv 0) (@aa _ _ _ _ _ (pv 2) (@aa _ _ _ _ _ (pv 3) af rfl) rfl) rfl)) (aj cK ae (pv 1))) af rfl) rfl) rfl)) (au av hr (@aa _ _ _ _ _ (pv 0) (@aa _ _ _ _ _ ae (@aa _ _ _ _ _ ae af rfl) rfl) rfl)) (fun _ _=>rfl)) rfl (by trivial)) (@ah _ _ _ _ _ (@az _ _ 5 _ _ _ _ i6.nd rfl (by trivial) (@aF _ _ _ _ _ _ _ bH (@bK _ _ _ _ (@aa _ _ _ _ _ jg (@aa _ _ _ _ _ ae (@aa _ _ _ _ _ (aj bC ae ae) (@aa _ _ _ _ _ (aj aY (pv 0) (aj bf (aj bC ae ae) ae)) af rfl) rfl) rfl) rfl)) (au av hr (@aa _ _ _ _ _ (pv 0) (@aa _ _ _ _ _ ae (@aa _ _ _ _ _ ae af rfl) rfl) rfl)) (fun _ _=>rfl)) rfl (by trivial)) (@ai _ _ _ (@aw _ _ _ _ (@bu _ _ _ _ _ (@aa _ _ _ _ _ (pv 4) (@aa _ _ _ _ _ (pv 5) af rfl) rfl)))))),?_⟩;have hwh:w*h<=64:=Fw hw8 hh8;have hwp:0<w*h:=Nat.mul_pos hw hh;have e1:((w:Int)*(h:Int))=((w*h:Nat):Int):=by simp
 refine⟨_,rfl,_,rfl,_,_,rfl,rfl,.inl ⟨by omega,by omega⟩,_,_,rfl,rfl,?_⟩;refine⟨⟨by rw[e1];omega,by rw[e1];omega,by decide⟩,_,_,rfl,rfl,?_⟩;refine⟨_,rfl,_,rfl,_,rfl,c,w,h,rfl,⟨hw,hw8,hh,hh8⟩,fun g H1 hg s1=>?_⟩;refine⟨_,rfl,_,_,rfl,rfl,⟨by omega,by omega,by decide⟩,_,_,rfl,rfl,aK rfl,fun l0 hl0=>?_⟩;have ea:(1:Int)*2^(((w:Nat):Int)*((h:Nat):Int)).toNat-1=((2^(w*h)-1:Nat):Int):=by
  have:=Gf (w*h);rw[e1,ET,Int.one_mul];have e2:((2:Int)^(w*h))=((2^(w*h):Nat):Int):=by simp
  rw[e2];omega
 have eb:=zd g k;simp only[ea,eb];have u0:=aq.upd (o:=.lst [.int 0,.int ((2^(w*h)-1:Nat):Int),.int ((g||| 2^k:Nat):Int)]) hl0;have g0:(upd H1 l0 (.lst [.int 0,.int ((2^(w*h)-1:Nat):Int),.int ((g||| 2^k:Nat):Int)])) l0=some (.lst [.int 0,.int ((2^(w*h)-1:Nat):Int),.int ((g||| 2^k:Nat):Int)]):=ag;generalize (upd H1 l0 (.lst [.int 0,.int ((2^(w*h)-1:Nat):Int),.int ((g||| 2^k:Nat):Int)]))=H2 at u0 g0 ⊢;refine⟨_,rfl,c,31,3,rfl,by decide,by decide,fun k3 hk3=>?_⟩;obtain⟨m,em,hm,hm2⟩:∃m:Nat,atI [V.int 0,.int ((2^(w*h)-1:Nat):Int),.int ((g||| 2^k:Nat):Int)] ((k3:Nat):Int)=some (.int (m:Nat))/\m<2^(w*h)/\(m=0\/m.testBit k=true):=by
  have p2:=Gf (w*h);rcases (show k3=0\/k3=1\/k3=2 by omega)with e|e|e<;>rw[e]
  ·exact⟨0,aB (j:=0) rfl,p2,.inl rfl⟩
  ·exact⟨2^(w*h)-1,aB (j:=1) rfl,by omega,.inr (by rw[Nat.testBit_two_pow_sub_one];exact Ey hk)⟩
  ·exact⟨g||| 2^k,aB (j:=2) rfl,Nat.or_lt_two_pow hg (Nat.pow_lt_pow_right (by decide) hk),.inr (by rw[FK,Nat.testBit_two_pow_self,Bool.or_true])⟩
 refine⟨l0,_,_,_,rfl,rfl,SqL.of g0,em,?_⟩;have r0:=E5 c (show(10:Int)^9+1≠0 by decide);have r1:=E3 c (show(0:Int)<10^9+1 by decide);refine⟨_,_,rfl,rfl,⟨by decide,by decide,by decide⟩,?_⟩;refine⟨_,rfl,_,_,rfl,rfl,⟨by decide,by decide,by decide⟩,_,_,rfl,rfl,_,_,rfl,rfl,(by show(0:Int)<10^9+1;decide),aK rfl,fun l1 hl1=>?_⟩;have u1:=aq.upd (o:=.lst [.non,.int 0,.int (10^Int.toNat 9),.int (c % (10^Int.toNat 9+1))]) hl1;have g1:(upd H2 l1 (.lst [.non,.int 0,.int (10^Int.toNat 9),.int (c % (10^Int.toNat 9+1))])) l1=some (.lst [.non,.int 0,.int (10^Int.toNat 9),.int (c % (10^Int.toNat 9+1))]):=ag;have td:TDs (upd H2 l1 (.lst [.non,.int 0,.int (10^Int.toNat 9),.int (c % (10^Int.toNat 9+1))])) [.none,.int 0,.int (10^Int.toNat 9),.int (c % (10^Int.toNat 9+1))] [.non,.int 0,.int (10^Int.toNat 9),.int (c % (10^Int.toNat 9+1))]:=.cons .non (.cons (.int _) (.cons (.int _) (.cons (.int _) .nil)));refine⟨_,rfl,c,32,4,rfl,by decide,by decide,fun k4 hk4=>?_⟩;have wok:∀i:Int,0<=i->i<=1000000000->trD (.int i)=true:=fun i i0 i1=>by show(decide _&&decide _)=true;rw[Ey i0,Ey i1];rfl
 obtain⟨v,d,hv,tv,d1,d2⟩:=td.pickP (P:=fun d=>trD d=true/\d.depth=0) hk4 (by
  intro d hd;simp only[Fd,List.not_mem_nil,or_false]at hd;rcases hd with e|e|e|e<;>subst e
  ·exact⟨rfl,rfl⟩
  ·exact⟨wok _ (by decide) (by decide),rfl⟩
  ·exact⟨wok _ (by decide) (by decide),rfl⟩
  ·exact⟨wok _ r0 (by have:c % (10^9+1)<1000000001:=r1;show c % (10^9+1)<=1000000000;omega),rfl⟩)
 refine⟨l1,_,_,_,rfl,rfl,SqL.of g1,aB hv,?_⟩;refine⟨_,rfl,_,rfl,aK rfl,fun l hl=>?_⟩;refine q l _ _ (.int (m:Nat)) d _ ((s1.trans (u0.trans u1)).trans (aq.upd hl)) ag (.int _) (tv.same (aq.upd hl)) rfl d2 ⟨?_,?_,d1⟩
 ·exact iN (Int.natCast_nonneg m) (by omega)
 ·rcases hm2 with e|e
  ·rw[e];rfl
  ·show(isZ (.int (m:Nat))||(decide (0<=((k:Nat):Int))&&m.testBit k))=true;rw[e,Ey (Int.natCast_nonneg k),Bool.and_true,Bool.or_true]
def hJ(K:Frag):Sp:=fun vs H Q _=>∃(c:Int)(w h:Nat),vs=[.int c,.int (w:Nat),.int (h:Nat)]/\(0<w/\w<=8)/\(0<h/\h<=8)/\∀v d H',aq H H'->TD H' d v->jh w h d=false->d.depth<=1->Q v H'
variable(b7:Df P w K mg base 3 "_law_bad_piece" ["_law_cell","_law_wide","_law_high"] (hJ K))
theorem lY:ay ["_law_cell","_law_wide","_law_high"] ["_law_cell","_law_wide","_law_high"] (ao (top 99)):=by trivial
include B aR av in
theorem mq(T:Tx K mg "_law_bad_piece" (top 99) ["_law_cell","_law_wide","_law_high"]):Df P w K mg base 3 "_law_bad_piece" ["_law_cell","_law_wide","_law_high"] (hJ K):=by
 refine T.df lY (by rintro _ _ _ _ ⟨c,w,h,rfl,⟨hw,hw8⟩,⟨hh,hh8⟩,q⟩;rfl) ?_;rintro f _ A _ s H _ Q E hr ⟨c,w,h,rfl,⟨hw,hw8⟩,⟨hh,hh8⟩,q⟩;refine⟨_,(@ah _ _ _ _ _ (aS ((gg (aC mU (aj bN (pv 1) (pv 2)) ae (aA _)) (e8 (aC aV (au av hr (@aa _ _ _ _ _ (pv 0) (@aa _ _ _ _ _ ae (@aa _ _ _ _ _ ae af rfl) rfl) rfl)) ae (aA _)))).pt) (@ai _ _ _ (@aw _ _ _ _ (aj bf ae (aj cK ae (aj aZ (aj bN (pv 1) (pv 2)) ae))))) aD) (@ai _ _ _ (@aw _ _ _ _ (au aR hr (@aa _ _ _ _ _ (pv 0) (@aa _ _ _ _ _ ae (@aa _ _ _ _ _ (aj aZ (aj cK ae (aj bN (pv 1) (pv 2))) ae) af rfl) rfl) rfl))))),?_⟩;have hwh:w*h<=64:=Fw hw8 hh8;have hwp:0<w*h:=Nat.mul_pos hw hh;have e1:((w:Int)*(h:Int))=((w*h:Nat):Int):=by simp
 have p2:2<=2^(w*h):=EN (show 0<2 by decide) hwp;have e2:((2:Int)^(w*h))=((2^(w*h):Nat):Int):=by simp
 have ea:(1:Int)*2^(((w:Nat):Int)*((h:Nat):Int)).toNat-1=((2^(w*h)-1:Nat):Int):=by rw[e1,ET,Int.one_mul,e2];omega
 refine⟨_,rfl,_,rfl,_,_,rfl,rfl,.inl ⟨by omega,by omega⟩,_,_,rfl,rfl,_,rfl,?_⟩;refine aT (fun h1=>?_) (fun h1=>?_)
 ·have g2:2<w*h:=by
   have:(2:Int)<((w:Nat):Int)*((h:Nat):Int):=EA h1;rw[e1]at this;omega
  refine⟨_,rfl,c,46,2,rfl,by decide,by decide,fun k2 hk2=>⟨rfl,_,rfl,?_⟩⟩;refine aT (fun _=>?_) (fun _=>?_)
  ·refine⟨_,rfl,_,rfl,_,_,rfl,rfl,.inl ⟨by omega,by omega⟩,_,_,rfl,rfl,_,_,rfl,rfl,⟨by rw[e1];omega,by rw[e1];omega,by decide⟩,_,_,rfl,rfl,?_⟩;have eb:(1:Int)+1*2^(((w:Nat):Int)*((h:Nat):Int)-1).toNat=((1+2^(w*h-1):Nat):Int):=by
    rw[e1,show(((w*h:Nat):Int)-1)=((w*h-1:Nat):Int) by omega,ET,Int.one_mul];simp
   simp only[eb];exact q _ _ _ (aq.refl _) (.int _) (two_ends hw hw8 hh8 g2) (EH _)
  ·refine⟨_,rfl,_,rfl,_,rfl,_,_,rfl,rfl,.inl ⟨by omega,by omega⟩,_,_,rfl,rfl,⟨by rw[e1];omega,by rw[e1];omega,by decide⟩,_,_,rfl,rfl,c,1,((2^(w*h)-1:Nat):Int),?_,by omega,fun v d H' s' td e dn dep=>q v d H' s' td (zi e) dep⟩;simp only[ea]
 ·refine bP ?_;refine⟨_,rfl,_,rfl,_,rfl,_,_,rfl,rfl,.inl ⟨by omega,by omega⟩,_,_,rfl,rfl,⟨by rw[e1];omega,by rw[e1];omega,by decide⟩,_,_,rfl,rfl,c,1,((2^(w*h)-1:Nat):Int),?_,by omega,fun v d H' s' td e dn dep=>q v d H' s' td (zi e) dep⟩;simp only[ea]
def iD(K:Frag):Sp:=fun vs H Q _=>∃(r:Addr)(ds:List PyData)(p:Nat)(c:Int)(w h k:Nat),vs=[.ref r,.int (p:Nat),.int c,.int (w:Nat),.int (h:Nat)]/\TD H (.tuple ds) (.ref r)/\ds[4]?=some (.int (k:Nat))/\k<w*h/\(0<w/\w<=8)/\(0<h/\h<=8)/\∀v d H',aq H H'->TD H' d v->(p+1=ds.length->trD d=false)->(p+1≠ds.length->(wi 0 ((2^(w*h)-1:Nat):Int) d&&(isZ d||o8 d (.int (k:Nat))))=false)->d.depth<=1->Q v H'
variable(eN:Df P w K mg base 3 "_law_bad_tail" ["_law_row","_law_place","_law_cell","_law_wide","_law_high"] (iD K))
theorem iH:ay ["_law_row","_law_place","_law_cell","_law_wide","_law_high","_law_many"] ["_law_row","_law_place","_law_cell","_law_wide","_law_high"] (ao (top 100)):=by trivial
include B aR av in
theorem mZ(T:Tx K mg "_law_bad_tail" (top 100) ["_law_row","_law_place","_law_cell","_law_wide","_law_high"]):Df P w K mg base 3 "_law_bad_tail" ["_law_row","_law_place","_law_cell","_law_wide","_law_high"] (iD K):=by
 refine T.df iH (by rintro _ _ _ _ ⟨r,ds,p,c,w,h,k,rfl,tR,h4,hk,⟨hw,hw8⟩,⟨hh,hh8⟩,q⟩;rfl) ?_;rintro f _ A _ s H _ Q E hr ⟨r,ds,p,c,w,h,k,rfl,tR,h4,hk,⟨hw,hw8⟩,⟨hh,hh8⟩,q⟩;refine⟨_,(@ah _ _ _ _ _ (@az _ _ 5 _ _ _ _ iH.nd rfl (by trivial) (aj bN (pv 3) (pv 4)) rfl (by trivial)) (@ah _ _ _ _ _ (aS (aC aV (pv 1) (aj aZ (aP br (by rfl) B.len Fv (@aa _ _ _ _ _ (pv 0) af rfl)) ae) (aA _)) (@ai _ _ _ (@aw _ _ _ _ (au aR hr (@aa _ _ _ _ _ (pv 2) (@aa _ _ _ _ _ ae (@aa _ _ _ _ _ (aj bC ae ae) af rfl) rfl) rfl)))) aD) (@ah _ _ _ _ _ (aS ((gg (aC mU (pv 5) ae (aA _)) (e8 (aC aV (au av hr (@aa _ _ _ _ _ (pv 2) (@aa _ _ _ _ _ ae (@aa _ _ _ _ _ ae af rfl) rfl) rfl)) ae (aA _)))).pt) (@ai _ _ _ (@aw _ _ _ _ (aj aZ (aj aZ (aj cK ae (pv 5)) ae) (aj cK ae (@aF _ _ _ _ _ _ _ aG (pv 0) ae (fun _ _=>rfl)))))) aD) (@ai _ _ _ (@aw _ _ _ _ (au aR hr (@aa _ _ _ _ _ (pv 2) (@aa _ _ _ _ _ ae (@aa _ _ _ _ _ (aj aZ (aj cK ae (pv 5)) ae) af rfl) rfl) rfl))))))),?_⟩;obtain⟨r',us,er,hr,zr⟩:=tR.tupE;cases er;have hwh:w*h<=64:=Fw hw8 hh8;have hwp:0<w*h:=Nat.mul_pos hw hh;have e1:((w:Int)*(h:Int))=((w*h:Nat):Int):=by simp
 have h9:(10:Int)^(9:Int).toNat=1000000000:=by decide+kernel
 have l5:4<ds.length:=(ED.mp h4).1;have lu:=zr.len;refine⟨_,rfl,_,rfl,_,_,rfl,rfl,.inl ⟨by omega,by omega⟩,?_⟩;refine⟨_,rfl,_,rfl,r,us,rfl,.inr (SqT.of hr),_,_,rfl,rfl,rfl,_,rfl,?_⟩;refine aT (fun h1=>?_) (fun h1=>?_)
 ·have ep:((p:Nat):Int)=((us.length:Nat):Int)-1:=V.int.inj (EA h1);refine⟨_,rfl,_,_,rfl,rfl,⟨by decide,by decide,by decide⟩,c,0,_,rfl,by decide,fun v d H' s' td e dn dep=>?_⟩;rw[h9]at e;exact q v d H' s' td (fun _=>CN e dn) (fun z=>absurd (by omega) z) dep
 have np:p+1≠ds.length:=fun z=>h1 (Ey (by show V.int ((p:Nat):Int)=V.int (((us.length:Nat):Int)-1);rw[show((us.length:Nat):Int)-1=((p:Nat):Int) by omega]));have p2:2<=2^(w*h):=EN (show 0<2 by decide) hwp;have e2:((2:Int)^(w*h))=((2^(w*h):Nat):Int):=by simp
 have ea:(1:Int)*2^(((w:Nat):Int)*((h:Nat):Int)).toNat-1=((2^(w*h)-1:Nat):Int):=by rw[e1,ET,Int.one_mul,e2];omega
 refine⟨_,rfl,_,_,rfl,rfl,_,rfl,?_⟩;refine aT (fun h2=>?_) (fun h2=>?_)
 ·have g2:1<w*h:=by
   have:(1:Int)<((w:Nat):Int)*((h:Nat):Int):=EA h2;rw[e1]at this;omega
  refine⟨_,rfl,c,47,2,rfl,by decide,by decide,fun k2 hk2=>⟨rfl,_,rfl,?_⟩⟩;refine aT (fun _=>?_) (fun _=>?_)
  ·obtain⟨u4,hu4,t4⟩:=zr.at h4;cases t4;refine⟨_,rfl,_,_,rfl,rfl,⟨by rw[e1];omega,by rw[e1];omega,by decide⟩,_,_,rfl,rfl,_,rfl,r,_,_,_,rfl,rfl,SqT.of hr,aB (j:=4) hu4,_,_,rfl,rfl,⟨by omega,by omega,by decide⟩,_,_,rfl,rfl,?_⟩;have pk:(2:Nat)^k<=2^(w*h-1):=EN (by decide) (by omega);have pn:(2:Nat)^(w*h)=2*2^(w*h-1):=(by rw[<-Nat.pow_succ',show(w*h-1).succ=w*h by omega]);have pp:(2:Nat)<=2^(w*h-1):=by
    have:=EN (show 0<2 by decide) (show 1<=w*h-1 by omega);omega
   have eb:(1:Int)*2^(((w:Nat):Int)*((h:Nat):Int)).toNat-1-1*2^((k:Nat):Int).toNat=((2^(w*h)-1-2^k:Nat):Int):=by rw[ea,ET,Int.one_mul,show((2:Int)^k)=((2^k:Nat):Int) by simp];omega
   simp only[eb];exact q _ _ _ (aq.refl _) (.int _) (fun z=>absurd z np) (fun _=>by rw[A8 hk g2,Fi]) (EH _)
  ·refine⟨_,rfl,_,rfl,_,_,rfl,rfl,⟨by rw[e1];omega,by rw[e1];omega,by decide⟩,_,_,rfl,rfl,c,0,((2^(w*h)-1:Nat):Int),?_,by omega,fun v d H' s' td e dn dep=>q v d H' s' td (fun z=>absurd z np) (fun _=>by rw[e,EO]) dep⟩;simp only[ea]
 ·refine bP ?_;refine⟨_,rfl,_,rfl,_,_,rfl,rfl,⟨by rw[e1];omega,by rw[e1];omega,by decide⟩,_,_,rfl,rfl,c,0,((2^(w*h)-1:Nat):Int),?_,by omega,fun v d H' s' td e dn dep=>q v d H' s' td (fun z=>absurd z np) (fun _=>by rw[e,EO]) dep⟩;simp only[ea]
def pP(K:Frag):Sp:=fun vs H Q _=>∃(l:Addr)(xs:List V)(fs:List (Int×Int))(D:Int),vs=[.ref l]/\SqL K H l xs/\Paired (fun(v:V) (f:Int×Int)=>∃p,v=.ref p/\SqT K H p [.int f.1,.int f.2]) xs fs/\(∀f∈fs,PF D f)/\(0<D/\Bd 1900 D)/\fs.length<=60/\∀p H',aq H H'->SqT K H' p [.int (sumF fs).1,.int (sumF fs).2]->Q (.ref p) H'
variable(lq:Df P w K mg base 4 "sum_of" ["some"] (pP K))
theorem ju:ay ["some","total","part"] ["some"] (ao (top 23)):=by trivial
include B rY qw in
theorem xU(T:Tx K mg "sum_of" (top 23) ["some"]):Df P w K mg base 4 "sum_of" ["some"] (pP K):=by
 obtain⟨pu_NONE,gu_NONE,tu_NONE⟩:=qw;refine T.df ju (by rintro _ _ _ _ ⟨l,xs,fs,D,rfl,hl,r,hp,⟨hD,bD⟩,hz,q⟩;rfl) ?_;rintro f _ A _ s H _ Q E hr ⟨l,xs,fs,D,rfl,hl,r,hp,⟨hD,bD⟩,hz,q⟩;refine bq ?_;intro kX;refine ar 2 (ai (aw (pv 1))) ?_;intro kR2 pR2;refine ar 1 (ah (je FG rfl (kP (pv 0)) (bJ (i:=2) ju.nd rfl (by trivial)) (ai (az (i:=1) ju.nd rfl (by trivial) (au rY hr (aa (pv 1) (aa (pv 2) af)))))) pR2) ?_;intro kR1 pR1;refine⟨_,(ah (az (i:=1) ju.nd rfl (by trivial) (bw (v:=.ref pu_NONE) (by rfl) gu_NONE rfl)) pR1),?_⟩;have lk:xs.length=fs.length:=Paired.length r;refine⟨_,rfl,l,rfl,⟨_,hl⟩,jl (K:=K) (a:=l) (xs:=xs) (fun i σ H2=>∃(p:Addr)(o2:Option V),σ=[some (.ref l),some (.ref p),o2]/\aq H H2/\SqT K H2 p [.int (sumF (fs.take i)).1,.int (sumF (fs.take i)).2]) ⟨pu_NONE,none,rfl,aq.refl _,tu_NONE _⟩ (fun i σ H2 _ hPz=>hPz.elim fun _ hPz=>hPz.elim fun _ hPz=>(fun e=>e.seq hl) (hPz.2.1)) ?_ ?_⟩
 ·rintro i y σ H2 hi ⟨p,o2,rfl,s2,hp2⟩;refine oX ?_;intro kD1;obtain⟨f,hf,p3,rfl,h3⟩:=fW r hi;have hil:i<60:=by
   have:=(ED.mp hf).1;omega
  have sf:=wz hD hp i;have sb:=sf.bd hD bD (by omega) (by omega);have pf:=hp f (EY hf);have pb:=pf.bd hD bD;refine⟨_,rfl,_,rfl,p,p3,_,_,_,_,rfl,hp2,s2.tup h3,⟨sf.ok.pos,pf.ok.pos⟩,⟨sb.1.mono (by decide),sb.2.mono (by decide),pb.1.mono (by decide),pb.2.mono (by decide)⟩,fun l4 H4 s4 hl4=>?_⟩;refine⟨l4,_,rfl,s2.trans s4,?_⟩;rw[pO hf];exact SqT.of hl4
 ·rintro σ H2 ⟨p,o2,rfl,s2,hp2⟩;rw[lk,FI]at hp2;exact⟨_,rfl,q p _ s2 hp2⟩
def sY(K:Frag):Sp:=fun vs H Q _=>∃(a:Addr)(w h c k:Nat),vs=[.ref a,.int c,.int k]/\SqT K H a [.int w,.int h]/\(0<w/\w<=8/\h<=8)/\c<2^(w*h)/\∀p H',cz w h c k p->aq H H'->Q (.int (p:Nat)) H'
variable(nE:Df P w K mg base 4 "piece" ["floor","cells","cell"] (sY K))
theorem iZ:ay ["floor","cells","cell","found","fresh"] ["floor","cells","cell"] (ao (top 26)):=by trivial
include B jP nF in
theorem zk(T:Tx K mg "piece" (top 26) ["floor","cells","cell"]):Df P w K mg base 4 "piece" ["floor","cells","cell"] (sY K):=by
 refine T.df iZ (by rintro _ _ _ _ ⟨a,w,h,c,k,rfl,hT,⟨hw,hw8,hh8⟩,hc,q⟩;rfl) ?_;rintro f _ A _ s H _ Q E hr ⟨a,w,h,c,k,rfl,hT,⟨hw,hw8,hh8⟩,hc,q⟩;refine bq ?_;intro kX;refine ar 4 (ai (aw (pv 3))) ?_;intro kR4 pR4;refine bU 3 1 (ai (az (i:=4) iZ.nd rfl (by trivial) (aj mi (aj mi (au nF hr (aa (pv 0) (aa (pv 4) af))) (pv 1)) (iK yy (pv 3))))) ?_;intro kS3x1 pS3x1;refine bU 3 0 (ah (az (i:=3) iZ.nd rfl (by trivial) (aj tP (pv 3) (pv 4))) pS3x1) ?_;intro kS3x0 pS3x0;refine ar 3 (ah (jd FG (aC kR (pv 4) ae (aA _)) pS3x0) pR4) ?_;intro kR3 pR3;refine ar 2 (ah (az (i:=4) iZ.nd rfl (by trivial) (aj cK ae (pv 2))) pR3) ?_;intro kR2 pR2;refine ar 1 (ah (az (i:=3) iZ.nd rfl (by trivial) ae) pR2) ?_;intro kR1 pR1;refine⟨_,(ah (aS (cw (cn (au jP hr (aa (pv 1) (aa (pv 2) af))))) (ai (aw ae)) aD) pR1),?_⟩;have hwh:w*h<=64:=Fw hw8 hh8;have p64:2^(w*h)<=2^64:=EN (by decide) hwh;have hc64:c<2^64:=EB hc p64;refine⟨_,rfl,_,rfl,c,k,rfl,_,rfl,?_⟩;rw[Ba];refine aT (fun hk=>?_) (fun hk=>?_)
 ·exact q 0 H (cz.zero (by simpa using hk)) (aq.refl _)
 have hk:c.testBit k=true:=by simpa using hk
 have hkn:=gq hc hk;refine⟨_,rfl,_,_,rfl,rfl,⟨by omega,by omega,by decide⟩,?_⟩;refine⟨fun m σ H2=>∃f g:Nat,σ=[some (.ref a),some (.int c),some (.int k),some (.int f),some (.int g)]/\m=2^64-f/\f<2^(w*h)/\g<2^(w*h)/\dM w h c k f g/\aq H H2,⟨_,0,2^k,(by rw[<-fq k];rfl),rfl,Gf _,Nat.pow_lt_pow_right (by decide) hkn,dM.start hk,aq.refl _⟩,?_⟩;rintro m σ H2 ⟨f,g,rfl,rfl,hf,hg,I,s2⟩;refine⟨_,rfl,rfl,_,rfl,?_⟩;refine aT (fun hb=>⟨_,fun _ _ z=>z,?_⟩) (fun hb=>?_)
 ·have hg0:=mV hb;have hfg:f|||g<2^(w*h):=Nat.or_lt_two_pow hf hg;have hG:=zG hw hwh hg;refine⟨_,rfl,_,rfl,_,_,rfl,rfl,?_⟩;refine⟨_,rfl,_,rfl,a,w,h,g,rfl,s2.tup hT,⟨hw,hw8,hh8⟩,hg,fun H3 s3=>?_⟩;refine⟨_,rfl,_,_,rfl,rfl,_,rfl,_,rfl,_,_,rfl,rfl,?_⟩;refine⟨_,I.less hg0 (EB hfg p64),f|||g,dif (mz w h g&&& c) (f|||g),?_,rfl,hfg,zO (Nat.lt_of_le_of_lt Nat.and_le_left hG),I.turn (EB hg p64),s2.trans s3⟩;simp only[mG,kc,ke];rfl
 ·have hg0:=mW hb;subst hg0;exact⟨_,rfl,q f H2 I.done s2⟩
def nU(K:Frag):Sp:=fun vs H Q _=>∃(v:V)(d:PyData),vs=[v]/\TD H d v/\∀H',aq H H'->Q (.bl (eD d)) H'
variable(eZ:Df P w K mg base 4 "is_part" ["thing"] (nU K))
theorem vn:ay ["thing"] ["thing"] (ao (top 48)):=by trivial
include B aI cG ir dj in
theorem vF(T:Tx K mg "is_part" (top 48) ["thing"]):Df P w K mg base 4 "is_part" ["thing"] (nU K):=by
 have vV:=ir.df;refine T.df vn (by rintro _ _ _ _ ⟨v,d,rfl,hd,q⟩;rfl) ?_;rintro f _ A _ s H _ Q E hr ⟨v,d,rfl,hd,q⟩;have hu:=hr.units;refine bq ?_;intro kX;refine ar 1 (ai (aw (cy (au aI hr (aa (aF aG (pv 0) ae (fun _ _=>rfl)) (aa ae (aa (aF aG (pv 0) ae (fun _ _=>rfl)) af)))) (bQ (ba (mf hu) (au vV hr (aa (aF aG (pv 0) ae (fun _ _=>rfl)) (aa (aF aG (pv 0) ae (fun _ _=>rfl)) af))) (pv 0) (aA _)))))) ?_;intro kR1 pR1;refine⟨_,(ah (aS ((iJ (cw (cn (au cG hr (aa (pv 0) (aa ae af))))) (ip (cw (cn (au aI hr (aa (aF aG (pv 0) ae (fun _ _=>rfl)) (aa ae (aa (bw (v:=.int 1000000000) (by rfl) dj.choose_spec ⟨_,rfl⟩) af)))))))).pt) (ai (aw eI)) aD) pR1),?_⟩;refine⟨_,rfl,v,d,2,rfl,hd,_,rfl,?_⟩;have no:(∀x y,d≠ .tuple [x,y])->Q (.bl false) H:=fun z=>by have:=q _ (aq.refl H);rw[zc z]at this;exact this
 cases hd with
 | @tup a vs ds h z=>
  by_cases l2:ds.length=2
  ·obtain⟨x,y,rfl⟩:∃x y,ds=[x,y]:=match ds,l2 with| [x,y],_=>⟨x,y,rfl⟩
   cases z with
   | @cons _ v0 _ _ z0 z=>
   cases z with
   | @cons _ v1 _ _ z1 z=>
   cases z;refine bP ?_;refine⟨_,rfl,a,_,_,_,rfl,rfl,SqT.of h,aB (j:=1) rfl,v1,y,1,1000000000,rfl,z1,_,rfl,?_⟩;have fal:(∀t b,x=.int t->y=.int b->eD (.tuple [x,y])=false)->Q (.bl false) H:=fun f=>by
    have:=q _ (aq.refl H);have e:eD (.tuple [x,y])=false:=by
     cases x with
     |int t=>
      cases y with
      |int b=>exact f t b rfl rfl
      |_=>rfl
     |_=>cases y<;>rfl
    rw[e]at this;exact this
   cases z1 with
   |int b=>
    have eb:wi 1 1000000000 (.int b)=(decide (1<=b)&&decide (b<=1000000000)):=rfl;cases w1:wi 1 1000000000 (.int b)with
    |false=>refine fal fun t b' ex eb'=>?_;cases eb';rw[ex];show(decide (1<=b)&&decide (b<=1000000000)&&_)=false;rw[<-eb,w1,EO]
    |true=>
     have hb:1<=b/\b<=1000000000:=by rw[eb,EL,Ez,Ez]at w1;exact w1
     refine bP ?_;refine⟨_,rfl,a,_,_,_,rfl,rfl,SqT.of h,aB (j:=0) rfl,_,rfl,a,_,_,_,rfl,rfl,SqT.of h,aB (j:=1) rfl,v0,x,1,b,rfl,z0,_,rfl,?_⟩;cases z0 with
     |int t=>
      have et:wi 1 b (.int t)=(decide (1<=t)&&decide (t<=b)):=rfl;have ep:eD (.tuple [.int t,.int b])=(wi 1 1000000000 (.int b)&&(wi 1 b (.int t)&&decide (Int.gcd t b=1))):=rfl;rw[ep,w1,E1]at q;cases w2:wi 1 b (.int t)with
      |false=>have:=q _ (aq.refl H);rw[w2,EO]at this;exact bP this
      |true=>
       rw[w2,E1]at q;refine fL ⟨_,rfl,a,_,_,_,rfl,rfl,SqT.of h,aB (j:=0) rfl,_,rfl,a,_,_,_,rfl,rfl,SqT.of h,aB (j:=1) rfl,_,_,_,_,rfl,dJ.int _,dJ.int _,.inl ⟨t,b,rfl,rfl,by omega,?_,fun l p r fr hl=>?_⟩⟩
       ·exact(zY (by omega) (by omega)).mono (by decide)
       ·have u:=aq.upd (o:=.tup [.int p,.int r]) hl;refine⟨_,rfl,_,_,.tup (SqT.of ag) (.cons (.int _) (.cons (.int _) .nil)),.tup (SqT.of (u _ _ h)) (.cons (.int _) (.cons (.int _) .nil)),rfl,rfl,Et rfl,?_⟩;rw[Bo,decide_eq_decide.mpr (Bj fr (by omega))];exact q _ u
     |_=>exact bP (fal fun t b' ex=>by cases ex)
   |_=>exact fal fun t b' ex eb'=>by cases eb'
  ·refine aT (fun _=>no fun x y e=>l2 (by cases e;rfl)) (fun z=>absurd (show(!decide (ds.length=2))=true by rw[EI l2];rfl) z)
 |_=>exact fL (no fun x y e=>nomatch e)
def fo(K:Frag):Sp:=spG K .onum
variable(cI:Df P w K mg base 4 "good_other_number" ["floor","row","place"] (fo K))
theorem jb:ay ["floor","row","place"] ["floor","row","place"] (ao (top 52)):=by trivial
include B cH in
theorem ji(T:Tx K mg "good_other_number" (top 52) ["floor","row","place"]):Df P w K mg base 4 "good_other_number" ["floor","row","place"] (fo K):=by
 refine T.df jb (by rintro _ _ _ _ ⟨fl,r,w,h,p,ds,rfl,hF,⟨hw,hw8⟩,⟨hh,hh8⟩,rr,⟨p1,pl⟩,pre,q⟩;rfl) ?_;rintro f _ A _ s H _ Q E hr ⟨fl,r,w,h,p,ds,rfl,hF,⟨hw,hw8⟩,⟨hh,hh8⟩,rr,⟨p1,pl⟩,pre,q⟩;have hu:=hr.units;refine⟨_,(ai (aw (cy (au cH hr (aa (pv 0) (aa (pv 1) (aa (pv 2) af)))) (bQ (ba (ou hu) (aF aG (pv 1) (pv 2) (fun _ _=>rfl)) (aF aG (pv 1) (aj aZ (pv 2) ae) (fun _ _=>rfl)) (aA _)))))),?_⟩;obtain⟨vs,v,hr1,ev,td,dep⟩:=rr.at pl;obtain⟨vs',v',hr1',ev',td',dep'⟩:=rr.at (show p-1<ds.length by omega);rw[hr1]at hr1';cases hr1';have e:lkB w h ds p .onum=(lkB w h ds p .num&& !PyData.eqv (thg ds p) (thg ds (p-1))):=rfl;refine⟨_,rfl,_,rfl,_,rfl,fl,r,w,h,p,ds,rfl,hF,⟨hw,hw8⟩,⟨hh,hh8⟩,rr,⟨p1,pl⟩,trivial,fun H1 s1=>⟨_,rfl,?_⟩⟩;have hr1:=s1 _ _ hr1;replace td:=td.same s1;replace td':=td'.same s1;refine aT (fun z=>?_) (fun z=>?_)
 ·rw[e,z,E1]at q;exact⟨_,rfl,_,rfl,r,_,_,_,rfl,rfl,SqT.of hr1,aB ev,_,rfl,_,rfl,_,_,rfl,rfl,r,_,_,_,rfl,rfl,SqT.of hr1,jt ev' p1,_,_,td.isD,td'.isD,td.lay,td'.lay,EX dep' (by decide),q _ s1⟩
 ·rw[Fm]at z;rw[e,z,EO]at q;exact q _ s1
def kE(K:Frag):Sp:=spG K .date
variable(gT:Df P w K mg base 4 "good_date" ["floor","row","place"] (kE K))
theorem qN:ay ["floor","row","place"] ["floor","row","place"] (ao (top 53)):=by trivial
include B cm in
theorem rp(T:Tx K mg "good_date" (top 53) ["floor","row","place"]):Df P w K mg base 4 "good_date" ["floor","row","place"] (kE K):=by refine T.df qN (by rintro _ _ _ _ ⟨fl,r,w,h,p,ds,rfl,hF,⟨hw,hw8⟩,⟨hh,hh8⟩,rr,⟨p1,pl⟩,pre,q⟩;rfl) ?_;rintro f _ A _ s H _ Q E hr ⟨fl,r,w,h,p,ds,rfl,hF,⟨hw,hw8⟩,⟨hh,hh8⟩,rr,⟨p1,pl⟩,pre,q⟩;refine⟨_,(ai (aw (au cm hr (aa (aF aG (pv 1) (pv 2) (fun _ _=>rfl)) af)))),?_⟩;obtain⟨vs,v,hr1,ev,td,dep⟩:=rr.at pl;exact⟨_,rfl,_,rfl,r,_,_,_,rfl,rfl,SqT.of hr1,aB ev,v,_,rfl,td,q _ (aq.refl _)⟩
def gc(K:Frag):Sp:=spG K .ocell
variable(dy:Df P w K mg base 4 "good_other_cell" ["floor","row","place"] (gc K))
theorem jT:ay ["floor","row","place"] ["floor","row","place"] (ao (top 58)):=by trivial
include B dI in
theorem jY(T:Tx K mg "good_other_cell" (top 58) ["floor","row","place"]):Df P w K mg base 4 "good_other_cell" ["floor","row","place"] (gc K):=by
 refine T.df jT (by rintro _ _ _ _ ⟨fl,r,w,h,p,ds,rfl,hF,⟨hw,hw8⟩,⟨hh,hh8⟩,rr,⟨p1,pl⟩,pre,q⟩;rfl) ?_;rintro f _ A _ s H _ Q E hr ⟨fl,r,w,h,p,ds,rfl,hF,⟨hw,hw8⟩,⟨hh,hh8⟩,rr,⟨p1,pl⟩,pre,q⟩;have hu:=hr.units;refine⟨_,(ai (aw (cy (au dI hr (aa (pv 0) (aa (pv 1) (aa (pv 2) af)))) (bQ (ba (ou hu) (aF aG (pv 1) (pv 2) (fun _ _=>rfl)) (aF aG (pv 1) (aj aZ (pv 2) ae) (fun _ _=>rfl)) (aA _)))))),?_⟩;obtain⟨vs,v,hr1,ev,td,dep⟩:=rr.at pl;obtain⟨vs',v',hr1',ev',td',dep'⟩:=rr.at (show p-1<ds.length by omega);rw[hr1]at hr1';cases hr1';have e:lkB w h ds p .ocell=(lkB w h ds p .cell&& !PyData.eqv (thg ds p) (thg ds (p-1))):=rfl;refine⟨_,rfl,_,rfl,_,rfl,fl,r,w,h,p,ds,rfl,hF,⟨hw,hw8⟩,⟨hh,hh8⟩,rr,⟨p1,pl⟩,trivial,fun H1 s1=>⟨_,rfl,?_⟩⟩;have hr1:=s1 _ _ hr1;replace td:=td.same s1;replace td':=td'.same s1;refine aT (fun z=>?_) (fun z=>?_)
 ·rw[e,z,E1]at q;exact⟨_,rfl,_,rfl,r,_,_,_,rfl,rfl,SqT.of hr1,aB ev,_,rfl,_,rfl,_,_,rfl,rfl,r,_,_,_,rfl,rfl,SqT.of hr1,jt ev' p1,_,_,td.isD,td'.isD,td.lay,td'.lay,EX dep' (by decide),q _ s1⟩
 ·rw[Fm]at z;rw[e,z,EO]at q;exact q _ s1
def jJ(K:Frag):Sp:=spG K .trust
variable(fS:Df P w K mg base 4 "good_trust" ["floor","row","place"] (jJ K))
theorem pC:ay ["floor","row","place"] ["floor","row","place"] (ao (top 65)):=by trivial
include B cm in
theorem pJ(T:Tx K mg "good_trust" (top 65) ["floor","row","place"]):Df P w K mg base 4 "good_trust" ["floor","row","place"] (jJ K):=by
 refine T.df pC (by rintro _ _ _ _ ⟨fl,r,w,h,p,ds,rfl,hF,⟨hw,hw8⟩,⟨hh,hh8⟩,rr,⟨p1,pl⟩,pre,q⟩;rfl) ?_;rintro f _ A _ s H _ Q E hr ⟨fl,r,w,h,p,ds,rfl,hF,⟨hw,hw8⟩,⟨hh,hh8⟩,rr,⟨p1,pl⟩,pre,q⟩;refine⟨_,(ai (aw (pZ (ba zf (aF aG (pv 1) (pv 2) (fun _ _=>rfl)) jg (aA _)) (bQ (au cm hr (aa (aF aG (pv 1) (pv 2) (fun _ _=>rfl)) af)))))),?_⟩;obtain⟨vs,v,hr1,ev,td,dep⟩:=rr.at pl;refine⟨_,rfl,_,rfl,r,_,_,_,rfl,rfl,SqT.of hr1,aB ev,rfl,_,rfl,?_⟩;have e:lkB w h ds p .trust=trD (thg ds p):=rfl;rw[e]at q;have no:thg ds p≠ .none->trD (thg ds p)=wi 0 1000000000 (thg ds p):=fun z=>by
  cases y:thg ds p with
  |none=>exact absurd y z
  |_=>rfl
 refine aT (fun z=>?_) (fun z=>?_)
 ·have zv:v=.non:=EA z;subst zv;have en:thg ds p=.none:=by
   generalize thg ds p=d at td;cases td;rfl
  rw[en]at q;exact q _ (aq.refl _)
 ·have nd:thg ds p≠ .none:=fun y=>by
   rw[y]at td;cases td;exact z rfl
  rw[no nd]at q;exact⟨_,rfl,_,rfl,r,_,_,_,rfl,rfl,SqT.of hr1,aB ev,v,_,rfl,td,q _ (aq.refl _)⟩
def jI(K:Frag):Sp:=spG K .til
variable(fR:Df P w K mg base 4 "good_until" ["floor","row","place"] (jI K))
theorem pB:ay ["floor","row","place"] ["floor","row","place"] (ao (top 68)):=by trivial
include B cm bI in
theorem pI(T:Tx K mg "good_until" (top 68) ["floor","row","place"]):Df P w K mg base 4 "good_until" ["floor","row","place"] (jI K):=by
 refine T.df pB (by rintro _ _ _ _ ⟨fl,r,w,h,p,ds,rfl,hF,⟨hw,hw8⟩,⟨hh,hh8⟩,rr,⟨p1,pl⟩,pre,q⟩;rfl) ?_;rintro f _ A _ s H _ Q E hr ⟨fl,r,w,h,p,ds,rfl,hF,⟨hw,hw8⟩,⟨hh,hh8⟩,rr,⟨p1,pl⟩,pre,q⟩;have hu:=hr.units;refine⟨_,(ai (aw (cy (au cm hr (aa (aF aG (pv 1) (pv 2) (fun _ _=>rfl)) af)) (bQ (pZ (ba aV (aF aG (pv 1) (pv 2) (fun _ _=>rfl)) ae (aA _)) (bQ (ba (mf hu) (aF aG (pv 1) (bw (v:=.int 5) (by rfl) bI.choose_spec ⟨_,rfl⟩) (fun _ _=>rfl)) aO (aA _)))))))),?_⟩;obtain⟨vs,v,hr1,ev,td,dep⟩:=rr.at pl;obtain⟨vs',v5,hr5,ev5,td5,dep5⟩:=rr.at (show 5<ds.length from pre);rw[hr1]at hr5;cases hr5;have e:lkB w h ds p .til=(wi 0 1000000000 (thg ds p)&&(isZ (thg ds p)||PyData.eqv (thg ds 5) (.str "note"))):=rfl;rw[e]at q;refine⟨_,rfl,_,rfl,r,_,_,_,rfl,rfl,SqT.of hr1,aB ev,v,_,rfl,td,_,rfl,?_⟩;refine aT (fun z=>?_) (fun z=>?_)
 ·rw[z,E1]at q;have zz:=vP td ⟨_,_,z⟩;refine⟨_,rfl,_,rfl,r,_,_,_,rfl,rfl,SqT.of hr1,aB ev,zz.1,_,rfl,?_⟩;rw[zz.2];refine aT (fun y=>?_) (fun y=>?_)
  ·rw[y,Bool.true_or]at q
   first|exact q _ (aq.refl _)|(rw[y];exact q _ (aq.refl _))
  ·rw[Fm]at y;rw[y,Bool.false_or]at q;exact⟨_,rfl,r,_,_,_,rfl,rfl,SqT.of hr1,aB ev5,_,_,td5.isD,.str _,td5.lay,ua,by decide,q _ (aq.refl _)⟩
 ·rw[Fm]at z;rw[z,EO]at q;exact q _ (aq.refl _)
def nQ(K:Frag):Sp:=fun vs H Q _=>∃(c m way:Int)(k w h:Nat),vs=[.int c,.int m,.int (k:Nat),.int (w:Nat),.int (h:Nat),.int way]/\(0<w/\w<=8)/\(0<h/\h<=8)/\∀l ks x a u o n H',aq H H'->H' l=some (.tup [.int (k:Nat),.str ks,.str x,.int a,.int u,.int o,.int n])->DO w h ks x a u o n->Q (.ref l) H'
variable(jx:Df P w K mg base 4 "_law_lay" ["_law_cell","_law_more","_law_at","_law_wide","_law_high","_law_way"] (nQ K))
theorem dC:ay ["_law_cell","_law_more","_law_at","_law_wide","_law_high","_law_way","_law_kind","_law_until","_law_over","_law_note"] ["_law_cell","_law_more","_law_at","_law_wide","_law_high","_law_way"] (ao (top 92)):=by trivial
include B bz bZ bg av in
theorem vA(T:Tx K mg "_law_lay" (top 92) ["_law_cell","_law_more","_law_at","_law_wide","_law_high","_law_way"]):Df P w K mg base 4 "_law_lay" ["_law_cell","_law_more","_law_at","_law_wide","_law_high","_law_way"] (nQ K):=by
 refine T.df dC (by rintro _ _ _ _ ⟨c,m,way,k,w,h,rfl,hw,hh,q⟩;rfl) ?_;rintro f _ A _ s H _ Q E hr ⟨c,m,way,k,w,h,rfl,hw,hh,q⟩;refine⟨_,(@ah _ _ _ _ _ (@az _ _ 6 _ _ _ _ dC.nd rfl (by trivial) (@aF _ _ _ _ _ _ _ bH (@bK _ _ _ _ (@aa _ _ _ _ _ aO (@aa _ _ _ _ _ aO (@aa _ _ _ _ _ aO (@aa _ _ _ _ _ aO af rfl) rfl) rfl) rfl)) (aj aY (pv 0) ae) (fun _ _=>rfl)) rfl (by trivial)) (@ah _ _ _ _ _ (@az _ _ 7 _ _ _ _ dC.nd rfl (by trivial) ae rfl (by trivial)) (@ah _ _ _ _ _ (@az _ _ 8 _ _ _ _ dC.nd rfl (by trivial) ae rfl (by trivial)) (@ah _ _ _ _ _ (@az _ _ 9 _ _ _ _ dC.nd rfl (by trivial) ae rfl (by trivial)) (bj (aS (aC aV (pv 6) aO (aA _)) (@ai _ _ _ (@az _ _ 7 _ _ _ _ dC.nd rfl (by trivial) (au bz hr (@aa _ _ _ _ _ (pv 1) (@aa _ _ _ _ _ ae (@aa _ _ _ _ _ ae (@aa _ _ _ _ _ (aj bC ae ae) af rfl) rfl) rfl) rfl)) rfl (by trivial))) (@ai _ _ _ (@az _ _ 9 _ _ _ _ dC.nd rfl (by trivial) (au bz hr (@aa _ _ _ _ _ (pv 1) (@aa _ _ _ _ _ ae (@aa _ _ _ _ _ ae (@aa _ _ _ _ _ (aj bC ae ae) af rfl) rfl) rfl) rfl)) rfl (by trivial)))) (bj (aS (aC aV (pv 6) aO (aA _)) (@ai _ _ _ (@az _ _ 8 _ _ _ _ dC.nd rfl (by trivial) (au bZ hr (@aa _ _ _ _ _ (pv 1) (@aa _ _ _ _ _ (pv 3) (@aa _ _ _ _ _ (pv 4) af rfl) rfl) rfl)) rfl (by trivial))) aD) (@ai _ _ _ (@aw _ _ _ _ (@bu _ _ _ _ _ (@aa _ _ _ _ _ (pv 2) (@aa _ _ _ _ _ (pv 6) (@aa _ _ _ _ _ (au bg hr (@aa _ _ _ _ _ (au av hr (@aa _ _ _ _ _ (pv 0) (@aa _ _ _ _ _ ae (@aa _ _ _ _ _ ae af rfl) rfl) rfl)) (@aa _ _ _ _ _ (pv 5) af rfl) rfl)) (@aa _ _ _ _ _ (au bz hr (@aa _ _ _ _ _ (pv 0) (@aa _ _ _ _ _ ae (@aa _ _ _ _ _ ae (@aa _ _ _ _ _ (aj bC ae ae) af rfl) rfl) rfl) rfl)) (@aa _ _ _ _ _ (pv 7) (@aa _ _ _ _ _ (pv 8) (@aa _ _ _ _ _ (pv 9) af rfl) rfl) rfl) rfl) rfl) rfl) rfl)))))))))),?_⟩;have m0:=E5 c (show(4:Int)≠0 by decide);have m1:=E3 c (show(0:Int)<4 by decide);have h9:(10:Int)^(9:Int).toNat=1000000000:=by decide+kernel
 have h12:(10:Int)^(12:Int).toNat=1000000000000:=by decide+kernel
 refine⟨aK rfl,fun l0 hl0=>?_⟩;have u0:=aq.upd (o:=.lst [.str "debt",.str "way",.str "buy",.str "note"]) hl0;have g0:(upd H l0 (.lst [.str "debt",.str "way",.str "buy",.str "note"])) l0=some (.lst [.str "debt",.str "way",.str "buy",.str "note"]):=ag;generalize (upd H l0 (.lst [.str "debt",.str "way",.str "buy",.str "note"]))=H1 at u0 g0 ⊢;obtain⟨ks,ek,hk⟩:∃ks:Str,atI [V.str "debt",.str "way",.str "buy",.str "note"] (c % 4)=some (.str ks)/\ks∈(["debt","way","buy","note"]:List Str):=by
  rcases (show c % 4=0\/c % 4=1\/c % 4=2\/c % 4=3 by omega)with e|e|e|e<;>rw[e]
  ·exact⟨"debt",rfl,by simp⟩
  ·exact⟨"way",rfl,by simp⟩
  ·exact⟨"buy",rfl,by simp⟩
  ·exact⟨"note",rfl,by simp⟩
 refine⟨_,rfl,_,_,rfl,rfl,(by show(0:Int)<4;decide),l0,_,_,_,rfl,rfl,SqL.of g0,ek,?_⟩;refine⟨fun σ' H'=>∃u n:Int,σ'=[some (.int c),some (.int m),some (.int (k:Nat)),some (.int (w:Nat)),some (.int (h:Nat)),some (.int way),some (.str ks),some (.int u),some (.int 0),some (.int n)]/\aq H H'/\((0<=u/\u<=1000000000)/\(u=0\/ks="note"))/\((0<=n/\n<=1000000000)/\(n=0\/ks≠"note")),?_,?_⟩
 ·refine dW ?_;intro kD1;refine⟨_,rfl,rfl,_,rfl,?_⟩;refine aT (fun h1=>?_) (fun h1=>?_)
  ·have e:ks="note":=V.str.inj (EA h1);refine⟨_,rfl,_,_,rfl,rfl,⟨by decide,by decide,by decide⟩,m,0,_,33,rfl,by decide,by decide,fun u H2 s2 a0 a1=>?_⟩;exact⟨u,0,rfl,u0.trans s2,⟨⟨a0,by rw[h9]at a1;exact a1⟩,.inr e⟩,⟨by decide,by decide⟩,.inl rfl⟩
  ·have e:ks≠"note":=fun z=>h1 (by rw[z];exact Ey rfl);refine⟨_,rfl,_,_,rfl,rfl,⟨by decide,by decide,by decide⟩,m,0,_,34,rfl,by decide,by decide,fun n H2 s2 a0 a1=>?_⟩;exact⟨0,n,rfl,u0.trans s2,⟨⟨by decide,by decide⟩,.inl rfl⟩,⟨a0,by rw[h9]at a1;exact a1⟩,.inr e⟩
 rintro σ' H2 ⟨u,n,rfl,s2,hu1,hn1⟩;refine⟨fun σ' H'=>∃o:Int,σ'=[some (.int c),some (.int m),some (.int (k:Nat)),some (.int (w:Nat)),some (.int (h:Nat)),some (.int way),some (.str ks),some (.int u),some (.int o),some (.int n)]/\aq H H'/\((ks="way"->jh w h (.int o)=true)/\(ks≠"way"->o=0)),?_,?_⟩
 ·refine dW ?_;intro kD2;refine⟨_,rfl,rfl,_,rfl,?_⟩;refine aT (fun h1=>?_) (fun h1=>?_)
  ·have e:ks="way":=V.str.inj (EA h1);refine⟨_,rfl,_,rfl,_,rfl,m,w,h,rfl,hw,hh,fun p H3 s3 o1=>?_⟩;exact⟨_,rfl,s2.trans s3,fun _=>o1,fun z=>absurd e z⟩
  ·have e:ks≠"way":=fun z=>h1 (by rw[z];exact Ey rfl);exact⟨0,rfl,s2,fun z=>absurd z e,fun _=>rfl⟩
 rintro σ' H3 ⟨o,rfl,s3,ho⟩;refine⟨_,rfl,_,rfl,_,rfl,c,35,13,rfl,by decide,by decide,fun k5 hk5=>⟨_,rfl,k5,way,rfl,hk5,?_⟩⟩;refine⟨_,rfl,_,_,rfl,rfl,⟨by decide,by decide,by decide⟩,c,0,_,36,rfl,by decide,by decide,fun a H5 s5 a0 a1=>?_⟩;refine⟨_,rfl,_,rfl,_,rfl,aK rfl,fun l hl=>?_⟩;exact q l ks _ a u o n _ (s3.trans (s5.trans (aq.upd hl))) ag ⟨hk,(eJ way hk5).1,⟨a0,by rw[h12]at a1;exact a1⟩,hu1,ho,hn1⟩
def iE(K:Frag):Sp:=fun vs H Q _=>∃(c:Int),vs=[.int c]/\∀v d H',aq H H'->TD H' d v->eD d=false->d.depth<=1->Q v H'
variable(eO:Df P w K mg base 4 "_law_bad_part" ["_law_cell"] (iE K))
theorem cU:ay ["_law_cell","_law_top","_law_bottom","_law_some"] ["_law_cell"] (ao (top 97)):=by trivial
include B av b6 in
theorem m8(T:Tx K mg "_law_bad_part" (top 97) ["_law_cell"]):Df P w K mg base 4 "_law_bad_part" ["_law_cell"] (iE K):=by
 refine T.df cU (by rintro _ _ _ _ ⟨c,rfl,q⟩;rfl) ?_;rintro f _ A _ s H _ Q E hr ⟨c,rfl,q⟩;refine⟨_,(@ah _ _ _ _ _ (aS (aC aV (au av hr (@aa _ _ _ _ _ (pv 0) (@aa _ _ _ _ _ ae (@aa _ _ _ _ _ ae af rfl) rfl) rfl)) ae (aA _)) (@ah _ _ _ _ _ (yV (au b6 hr (@aa _ _ _ _ _ (pv 0) af rfl)) (y6 rfl (kQ (bJ (i:=1) cU.nd rfl (by trivial)) (kQ (bJ (i:=2) cU.nd rfl (by trivial)) wI)))) (@ai _ _ _ (@aw _ _ _ _ (@bu _ _ _ _ _ (@aa _ _ _ _ _ (aj bN (pv 1) (aj bf ae (aj aY (pv 0) ae))) (@aa _ _ _ _ _ (aj bN (pv 2) (aj bf ae (aj aY (pv 0) ae))) af rfl) rfl))))) aD) (@ah _ _ _ _ _ (@az _ _ 3 _ _ _ _ cU.nd rfl (by trivial) (@eU _ _ _ _ (@ak _ _ _ _ _ (@aJ _ _ _ _ _ (@ak _ _ _ _ _ aQ (@ak _ _ _ _ _ aQ aE rfl) rfl) (Et rfl)) (@ak _ _ _ _ _ (@aJ _ _ _ _ _ (@ak _ _ _ _ _ aQ (@ak _ _ _ _ _ aQ aE rfl) rfl) (Et rfl)) (@ak _ _ _ _ _ (@aJ _ _ _ _ _ (@ak _ _ _ _ _ aQ (@ak _ _ _ _ _ aQ aE rfl) rfl) (Et rfl)) (@ak _ _ _ _ _ (@aJ _ _ _ _ _ (@ak _ _ _ _ _ (eK (iK gV ae) fun _ _ _ q=>⟨_,rfl,q⟩) (@ak _ _ _ _ _ aQ aE rfl) rfl) (Et rfl)) (@ak _ _ _ _ _ (@aJ _ _ _ _ _ (@ak _ _ _ _ _ aQ (@ak _ _ _ _ _ (eK (aj bf (aj bC ae ae) ae) fun _ _ _ q=>⟨_,_,rfl,rfl,⟨by decide,by decide,by decide⟩,_,_,rfl,rfl,q⟩) aE rfl) rfl) (Et rfl)) (@ak _ _ _ _ _ (@aJ _ _ _ _ _ (@ak _ _ _ _ _ aQ (@ak _ _ _ _ _ aQ aE rfl) rfl) (Et rfl)) (@ak _ _ _ _ _ (@aJ _ _ _ _ _ (@ak _ _ _ _ _ aQ (@ak _ _ _ _ _ aQ (@ak _ _ _ _ _ aQ aE rfl) rfl) rfl) (Et rfl)) (@ak _ _ _ _ _ (@eU _ _ _ _ (@ak _ _ _ _ _ aQ (@ak _ _ _ _ _ aQ aE rfl) rfl) (Et rfl)) (@ak _ _ _ _ _ j7 (@ak _ _ _ _ _ aQ (@ak _ _ _ _ _ (@aJ _ _ _ _ _ (@ak _ _ _ _ _ uu (@ak _ _ _ _ _ aQ aE rfl) rfl) (Et rfl)) (@ak _ _ _ _ _ (@aJ _ _ _ _ _ (@ak _ _ _ _ _ aQ (@ak _ _ _ _ _ uu aE rfl) rfl) (Et rfl)) aE rfl) rfl) rfl) rfl) rfl) rfl) rfl) rfl) rfl) rfl) rfl) rfl) (Et rfl)) rfl (by trivial)) (@ah _ _ _ _ _ (@az _ _ 3 _ _ _ _ cU.nd rfl (by trivial) (aj mh (pv 3) (@eU _ _ _ _ (@ak _ _ _ _ _ (aW (by decide+kernel) (by decide+kernel)) (@ak _ _ _ _ _ (@aJ _ _ _ _ _ (@ak _ _ _ _ _ aQ (@ak _ _ _ _ _ (eK (iK gV ae) fun _ _ _ q=>⟨_,rfl,q⟩) aE rfl) rfl) (Et rfl)) (@ak _ _ _ _ _ (@aJ _ _ _ _ _ (@ak _ _ _ _ _ (eK (iK gV ae) fun _ _ _ q=>⟨_,rfl,q⟩) (@ak _ _ _ _ _ (eK (iK gV ae) fun _ _ _ q=>⟨_,rfl,q⟩) aE rfl) rfl) (Et rfl)) (@ak _ _ _ _ _ (@aJ _ _ _ _ _ (@ak _ _ _ _ _ aQ aE rfl) (Et rfl)) (@ak _ _ _ _ _ (@aJ _ _ _ _ _ (@ak _ _ _ _ _ (aW (by decide+kernel) (by decide+kernel)) (@ak _ _ _ _ _ aQ aE rfl) rfl) (Et rfl)) (@ak _ _ _ _ _ (@aJ _ _ _ _ _ (@ak _ _ _ _ _ aQ (@ak _ _ _ _ _ aQ aE rfl) rfl) (Et rfl)) (@ak _ _ _ _ _ (@aJ _ _ _ _ _ (@ak _ _ _ _ _ (eK (aj bC ae ae) fun _ _ _ q=>⟨_,_,rfl,rfl,⟨by decide,by decide,by decide⟩,q⟩) (@ak _ _ _ _ _ aQ aE rfl) rfl) (Et rfl)) (@ak _ _ _ _ _ (@aJ _ _ _ _ _ (@ak _ _ _ _ _ aQ (@ak _ _ _ _ _ (eK (aj bC ae ae) fun _ _ _ q=>⟨_,_,rfl,rfl,⟨by decide,by decide,by decide⟩,q⟩) aE rfl) rfl) (Et rfl)) aE rfl) rfl) rfl) rfl) rfl) rfl) rfl) rfl) (Et rfl))) rfl (by trivial)) (@ai _ _ _ (@aw _ _ _ _ (@aF _ _ _ _ _ _ _ bH (pv 3) (au av hr (@aa _ _ _ _ _ (pv 0) (@aa _ _ _ _ _ ae (@aa _ _ _ _ _ ae af rfl) rfl) rfl)) (fun _ _=>rfl))))))),?_⟩;refine⟨_,rfl,c,53,3,rfl,by decide,by decide,fun k hk=>⟨rfl,_,rfl,?_⟩⟩;refine aT (fun _=>?_) (fun _=>?_)
 ·have m0:=E5 c (show(3:Int)≠0 by decide);have m1:=E3 c (show(0:Int)<3 by decide);refine⟨_,rfl,c,rfl,fun l t b H1 s1 hl pd=>⟨l,_,rfl,SqT.of hl,rfl,_,_,rfl,_,_,rfl,rfl,?_⟩⟩;obtain⟨g1,g2,_⟩:(1<=b/\b<=1000000000)/\(1<=t/\t<=b)/\Int.gcd t b=1:=by
   obtain⟨t',b',e,g⟩:=p8 pd;cases e;exact g
  obtain⟨m,em⟩:∃m:Int,2+c % 3=m:=⟨_,rfl⟩;refine⟨_,rfl,_,rfl,_,_,rfl,rfl,(by show(0:Int)<3;decide),_,_,rfl,rfl,_,_,rfl,rfl,.inl ⟨by omega,by omega⟩,_,rfl,_,rfl,_,_,rfl,rfl,(by show(0:Int)<3;decide),_,_,rfl,rfl,_,_,rfl,rfl,.inl ⟨by omega,by omega⟩,aK rfl,fun t2 ht2=>?_⟩;exact q _ (.tuple [.int (t*(2+c % 3)),.int (b*(2+c % 3))]) _ (s1.trans (aq.upd ht2)) (.tup ag (.cons (.int _) (.cons (.int _) .nil))) (vy (by omega)) (Et rfl)
 ·refine fun v1 H1 s1 t1=>?_;obtain⟨l1,vs1,rfl,h1,z1⟩:=t1.lstE;refine⟨_,rfl,fun v2 H2 s2 t2=>?_⟩;obtain⟨l2,vs2,rfl,h2,z2⟩:=t2.lstE;refine⟨l1,l2,_,_,rfl,rfl,s2 _ _ h1,h2,?_,fun l3 hl3=>?_⟩
  ·rw[z1.len,z2.len];exact Et rfl
  have u3:=aq.upd (o:=.lst (vs1++vs2)) hl3;have td:=((z1.same s2).app z2).same u3;have k3:(upd H2 l3 (.lst (vs1++vs2))) l3=some (.lst (vs1++vs2)):=ag;generalize (upd H2 l3 (.lst (vs1++vs2)))=H3 at u3 k3 td ⊢;refine⟨_,rfl,_,rfl,c,44,20,rfl,by decide,by decide,fun k2 hk2=>?_⟩;obtain⟨v,d,hv,tv,pd⟩:=td.pickB (fun d=> !eD d&&decide (d.depth<=1)) hk2 (by decide+kernel);obtain⟨a1,a2⟩:=vJ pd;exact⟨l3,_,_,_,rfl,rfl,SqL.of k3,aB hv,q v d _ (s1.trans (s2.trans u3)) tv a1 a2⟩
def iS(K:Frag):Sp:=fun vs H Q _=>∃(r:Addr)(ds:List PyData)(p:Nat)(c:Int)(w h:Nat)(ks:Str)(l:Lk),vs=[.ref r,.int (p:Nat),.int c,.int (w:Nat),.int (h:Nat)]/\TD H (.tuple ds) (.ref r)/\ds[5]?=some (.str ks)/\5<=p/\([.bkind,.name,.amt,.til,.over,.note]:List Lk)[p-5]?=some l/\(0<w/\w<=8)/\(0<h/\h<=8)/\∀v d H',aq H H'->TD H' d v->lX w h ds p l d->d.depth<=1->Q v H'
variable(fb:Df P w K mg base 4 "_law_bad_lay" ["_law_row","_law_place","_law_cell","_law_wide","_law_high"] (iS K))
theorem nZ:ay ["_law_row","_law_place","_law_cell","_law_wide","_law_high"] ["_law_row","_law_place","_law_cell","_law_wide","_law_high"] (ao (top 101)):=by trivial
include B aR bV b7 av in
theorem oE(T:Tx K mg "_law_bad_lay" (top 101) ["_law_row","_law_place","_law_cell","_law_wide","_law_high"]):Df P w K mg base 4 "_law_bad_lay" ["_law_row","_law_place","_law_cell","_law_wide","_law_high"] (iS K):=by
 refine T.df nZ (by rintro _ _ _ _ ⟨r,ds,p,c,w,h,ks,l,rfl,tR,h5,p5,hl,⟨hw,hw8⟩,⟨hh,hh8⟩,q⟩;rfl) ?_;rintro f _ A _ s H _ Q E hr ⟨r,ds,p,c,w,h,ks,l,rfl,tR,h5,p5,hl,⟨hw,hw8⟩,⟨hh,hh8⟩,q⟩;refine⟨_,(@ah _ _ _ _ _ (aS (aC aV (pv 1) ae (aA _)) (@ai _ _ _ (@aw _ _ _ _ (@aF _ _ _ _ _ _ _ bH (@eU _ _ _ _ (@ak _ _ _ _ _ (aW (by decide+kernel) (by decide+kernel)) (@ak _ _ _ _ _ (aW (by decide+kernel) (by decide+kernel)) (@ak _ _ _ _ _ (aW (by decide+kernel) (by decide+kernel)) (@ak _ _ _ _ _ j7 (@ak _ _ _ _ _ aQ (@ak _ _ _ _ _ (@aJ _ _ _ _ _ (@ak _ _ _ _ _ (aW (by decide+kernel) (by decide+kernel)) aE rfl) (Et rfl)) (@ak _ _ _ _ _ (@eU _ _ _ _ (@ak _ _ _ _ _ (aW (by decide+kernel) (by decide+kernel)) aE rfl) (Et rfl)) (@ak _ _ _ _ _ (aW (by decide+kernel) (by decide+kernel)) aE rfl) rfl) rfl) rfl) rfl) rfl) rfl) rfl) (Et rfl)) (au av hr (@aa _ _ _ _ _ (pv 2) (@aa _ _ _ _ _ ae (@aa _ _ _ _ _ ae af rfl) rfl) rfl)) (fun _ _=>rfl)))) aD) (@ah _ _ _ _ _ (aS (aC aV (pv 1) ae (aA _)) (@ai _ _ _ (@aw _ _ _ _ (au bV hr (@aa _ _ _ _ _ (pv 2) (@aa _ _ _ _ _ aO af rfl) rfl)))) aD) (@ah _ _ _ _ _ (aS (aC aV (pv 1) ae (aA _)) (@ai _ _ _ (@aw _ _ _ _ (au aR hr (@aa _ _ _ _ _ (pv 2) (@aa _ _ _ _ _ ae (@aa _ _ _ _ _ (aj bC ae ae) af rfl) rfl) rfl)))) aD) (bj (aS ((gg (aC hZ (pv 1) (@bu _ _ _ _ _ (@aa _ _ _ _ _ ae (@aa _ _ _ _ _ ae af rfl) rfl)) (by with_unfolding_all rfl)) (gg (aC aV (ba aV (@aF _ _ _ _ _ _ _ aG (pv 0) ae (fun _ _=>rfl)) aO (aA _)) (ba aV (pv 1) ae (aA _)) (aA _)) (e8 (aC aV (au av hr (@aa _ _ _ _ _ (pv 2) (@aa _ _ _ _ _ ae (@aa _ _ _ _ _ ae af rfl) rfl) rfl)) ae (aA _))))).pt) (@ai _ _ _ (@aw _ _ _ _ (aj bf ae (aj aY (pv 2) (aj bC ae ae))))) aD) (@ah _ _ _ _ _ (aS (aC aV (pv 1) ae (aA _)) (@ai _ _ _ (@aw _ _ _ _ (au aR hr (@aa _ _ _ _ _ (pv 2) (@aa _ _ _ _ _ ae (@aa _ _ _ _ _ (aj bN (aj bC ae ae) (cJ jz (by rfl) B.int boot_int (@aa _ _ _ _ _ (ba aV (@aF _ _ _ _ _ _ _ aG (pv 0) ae (fun _ _=>rfl)) aO (aA _)) af rfl))) af rfl) rfl) rfl)))) aD) (@ah _ _ _ _ _ (aS ((gg (aC aV (pv 1) ae (aA _)) (e8 (aC aV (@aF _ _ _ _ _ _ _ aG (pv 0) ae (fun _ _=>rfl)) aO (aA _)))).pt) (@ai _ _ _ (@aw _ _ _ _ (au b7 hr (@aa _ _ _ _ _ (pv 2) (@aa _ _ _ _ _ (pv 3) (@aa _ _ _ _ _ (pv 4) af rfl) rfl) rfl)))) aD) (@ah _ _ _ _ _ (aS (aC aV (pv 1) ae (aA _)) (@ai _ _ _ (@aw _ _ _ _ (au aR hr (@aa _ _ _ _ _ (pv 2) (@aa _ _ _ _ _ ae (@aa _ _ _ _ _ ae af rfl) rfl) rfl)))) aD) (@ai _ _ _ (@aw _ _ _ _ (au aR hr (@aa _ _ _ _ _ (pv 2) (@aa _ _ _ _ _ ae (@aa _ _ _ _ _ (aj bN (aj bC ae ae) (cJ jz (by rfl) B.int boot_int (@aa _ _ _ _ _ (ba kR (@aF _ _ _ _ _ _ _ aG (pv 0) ae (fun _ _=>rfl)) aO (aA _)) af rfl))) af rfl) rfl) rfl))))))))))),?_⟩;obtain⟨r',us,er,hr,zr⟩:=tR.tupE;cases er;have h9:(10:Int)^(9:Int).toNat=1000000000:=by decide+kernel
 have h12:(10:Int)^(12:Int).toNat=1000000000000:=by decide+kernel
 obtain⟨u5,hu5,t5⟩:=zr.at h5;cases t5;have at5:atI us 5=some (.str ks):=aB (j:=5) hu5;have yes:∀{j:Nat},decide (V.int ((p:Nat):Int)=V.int ((j:Nat):Int))=true->p=j:=fun z=>by have:=V.int.inj (EA z);omega
 have no:∀{j:Nat},¬decide (V.int ((p:Nat):Int)=V.int ((j:Nat):Int))=true->p≠j:=fun z e=>z (by rw[e];exact Ey rfl);refine⟨_,rfl,rfl,_,rfl,?_⟩;refine aT (fun h1=>?_) (fun n5=>?_)
 ·cases yes (j:=5) h1;cases (show some Lk.bkind=some l from hl);refine fun v1 H1 s1 t1=>?_;obtain⟨l1,vs1,rfl,k1,z1⟩:=t1.lstE;refine⟨_,rfl,c,48,8,rfl,by decide,by decide,fun k hk=>?_⟩;obtain⟨v,d,hv,tv,pd⟩:=z1.pickB (fun d=> !inS ["debt","way","buy","note"] d&&decide (d.depth<=1)) hk (by decide+kernel);obtain⟨a1,a2⟩:=vJ pd;refine⟨l1,_,_,_,rfl,rfl,SqL.of k1,aB hv,q v d _ s1 tv (fun ds' _ e=>?_) a2⟩;show inS ["debt","way","buy","note"] (thg ds' 5)=false;rw[e];exact a1
 refine⟨_,rfl,rfl,_,rfl,?_⟩;refine aT (fun h1=>?_) (fun n6=>?_)
 ·cases yes (j:=6) h1;cases (show some Lk.name=some l from hl);refine⟨_,rfl,c,"",rfl,by decide+kernel,by decide+kernel,fun v d H' s' td e dep=>q v d H' s' td (fun ds' _ e'=>?_) dep⟩;show nmD (thg ds' 6)=false;rw[e'];rcases e with e|e
  ·rw[e];decide+kernel
  ·exact e
 refine⟨_,rfl,rfl,_,rfl,?_⟩;refine aT (fun h1=>?_) (fun n7=>?_)
 ·cases yes (j:=7) h1;cases (show some Lk.amt=some l from hl);refine⟨_,rfl,_,_,rfl,rfl,⟨by decide,by decide,by decide⟩,c,0,_,rfl,by decide,fun v d H' s' td e dn dep=>q v d H' s' td (fun ds' _ e'=>?_) dep⟩;rw[h12]at e;show wi 0 1000000000000 (thg ds' 7)=false;rw[e'];exact e
 refine⟨fun σ' H'=>σ'=[some (.ref r),some (.int (p:Nat)),some (.int c),some (.int (w:Nat)),some (.int (h:Nat))]/\aq H H',?_,?_⟩
 ·refine dW ?_;intro kD1;refine⟨_,rfl,aK rfl,fun t ht=>⟨t,_,rfl,.inr (SqT.of ag),rfl,rfl,_,rfl,?_⟩⟩;have s1:=aq.upd (o:=.tup [.int 8,.int 10]) ht;refine aT (fun h1=>?_) (fun _=>bP ⟨rfl,s1⟩);have p810:p=8\/p=10:=by
   have:inV (.int (p:Nat)) [.int 8,.int 10]=true:=h1;have:(decide ((8:Int)=((p:Nat):Int))||(decide ((10:Int)=((p:Nat):Int))||false))=true:=this;simp only[F5,Ez,Bool.false_eq_true,or_false]at this;omega
  generalize (upd H t (.tup [.int 8,.int 10]))=H1 at s1 ⊢;refine⟨_,rfl,r,us,_,_,rfl,rfl,SqT.of (s1 _ _ hr),at5,rfl,_,rfl,rfl,rfl,_,rfl,?_⟩;refine aT (fun h2=>?_) (fun _=>bP ⟨rfl,s1⟩);refine⟨_,rfl,c,52,2,rfl,by decide,by decide,fun k2 hk2=>⟨rfl,_,rfl,?_⟩⟩;refine aT (fun _=>?_) (fun _=>⟨rfl,s1⟩);have m0:=E5 c (show(10:Int)^(9:Int).toNat≠0 by decide);refine⟨_,rfl,_,_,rfl,rfl,⟨by decide,by decide,by decide⟩,_,_,rfl,rfl,(by show(0:Int)<10^(9:Int).toNat;decide),_,_,rfl,rfl,?_⟩;have h2':decide (V.bl (decide (V.str ks=V.str "note"))=V.bl (decide (V.int ((p:Nat):Int)=V.int 10)))=true:=h2;have h2':decide (V.str ks=V.str "note")=decide (V.int ((p:Nat):Int)=V.int 10):=V.bl.inj (EA h2');rw[Cw]at h2';refine q _ (.int (1+c % 10^(9:Int).toNat)) _ s1 (.int _) ?_ (EH _);rcases p810 with e|e
  ·cases e;cases (show some Lk.til=some l from hl);refine Aa h5 ?_;rw[h2'];exact wO (by omega)
  ·cases e;cases (show some Lk.note=some l from hl);refine xo h5 ?_;rw[h2'];exact wO (by omega)
 rintro σ' H1 ⟨rfl,s1⟩;have hr1:=s1 _ _ hr;refine⟨_,rfl,rfl,_,rfl,?_⟩;refine aT (fun h1=>?_) (fun n8=>?_)
 ·cases yes (j:=8) h1;cases (show some Lk.til=some l from hl);refine⟨_,rfl,_,_,rfl,rfl,⟨by decide,by decide,by decide⟩,_,rfl,r,us,_,_,rfl,rfl,SqT.of hr1,at5,rfl,.inr ⟨_,rfl,_,_,rfl,rfl,?_,c,0,_,rfl,?_,fun v d H' s' td e dn dep=>?_⟩⟩
  ·exact .inl ⟨by rw[h9];decide,by rw[h9];decide⟩
  ·rw[h9];split<;>decide
  ·refine q v d H' (s1.trans s') td (Aa h5 ?_) dep;rw[h9,Cw]at e;exact yB e
 refine⟨_,rfl,rfl,_,rfl,?_⟩;refine aT (fun h1=>?_) (fun n9=>?_)
 ·cases yes (j:=9) h1;cases (show some Lk.over=some l from hl);refine⟨_,rfl,r,us,_,_,rfl,rfl,SqT.of hr1,at5,rfl,_,rfl,?_⟩;refine aT (fun h2=>?_) (fun h2=>?_)
  ·have ew:ks="way":=V.str.inj (EA h2);refine⟨_,rfl,_,rfl,_,rfl,c,w,h,rfl,⟨hw,hw8⟩,⟨hh,hh8⟩,fun v d H' s' td e dep=>q v d H' (s1.trans s') td (xn h5 ?_) dep⟩;rw[Fl ew];exact e
  ·have ew:ks≠"way":=fun e=>h2 (by rw[e];exact Ey rfl);refine⟨_,rfl,rfl,_,rfl,fL ?_⟩;refine⟨_,rfl,c,0,0,rfl,by decide,fun v d H' s' td e dn dep=>q v d H' (s1.trans s') td (xn h5 ?_) dep⟩;rw[Fb ew];exact e
 refine bP ⟨_,rfl,rfl,_,rfl,?_⟩;refine aT (fun h1=>absurd h1 n9) (fun _=>?_);have p10:p=10:=by have a1:=no (j:=5) n5;have a2:=no (j:=6) n6;have a3:=no (j:=7) n7;have a4:=no (j:=8) n8;have a5:=no (j:=9) n9;have a6:=(ED.mp hl).1;have a7:p-5<6:=a6;omega
 cases p10;cases (show some Lk.note=some l from hl);refine⟨_,rfl,_,_,rfl,rfl,⟨by decide,by decide,by decide⟩,_,rfl,r,us,_,_,rfl,rfl,SqT.of hr1,at5,rfl,.inr ⟨_,rfl,_,_,rfl,rfl,?_,c,0,_,rfl,?_,fun v d H' s' td e dn dep=>?_⟩⟩
 ·exact .inl ⟨by rw[h9];decide,by rw[h9];decide⟩
 ·rw[h9];split<;>decide
 ·refine q v d H' (s1.trans s') td (xo h5 ?_) dep;rw[h9,Cw]at e;exact yB e
def kn(K:Frag):Sp:=fun vs H Q _=>∃(c:Int)(r:Addr)(ds:List PyData),vs=[.ref r,.int c]/\TD H (.tuple ds) (.ref r)/\3<=ds.length/\∀H',aq H H'->Q (.bl true) H'
variable(gJ:Df P w K mg base 4 "_law_dates" ["_law_row","_law_cell"] (kn K))
theorem ij:ay ["_law_row","_law_cell","_law_thing","_law_told"] ["_law_row","_law_cell"] (ao (top 106)):=by trivial
include B aR cm cM dF in
theorem qY(T:Tx K mg "_law_dates" (top 106) ["_law_row","_law_cell"]):Df P w K mg base 4 "_law_dates" ["_law_row","_law_cell"] (kn K):=by
 refine T.df ij (by rintro _ _ _ _ ⟨c,r,ds,rfl,tR,n3,q⟩;rfl) ?_;rintro f _ A _ s H _ Q E hr ⟨c,r,ds,rfl,tR,n3,q⟩;refine⟨_,(@ah _ _ _ _ _ (je FG rfl (kP (@bK _ _ _ _ (@aa _ _ _ _ _ (@aF _ _ _ _ _ _ _ aG (pv 0) ae (fun _ _=>rfl)) (@aa _ _ _ _ _ (@aF _ _ _ _ _ _ _ aG (pv 0) ae (fun _ _=>rfl)) (@aa _ _ _ _ _ (@aF _ _ _ _ _ _ _ aG (pv 0) (iK gV ae) (fun _ _=>rfl)) (@aa _ _ _ _ _ (pv 0) (@aa _ _ _ _ _ (au aR hr (@aa _ _ _ _ _ (pv 1) (@aa _ _ _ _ _ ae (@aa _ _ _ _ _ (aj bC ae ae) af rfl) rfl) rfl)) af rfl) rfl) rfl) rfl) rfl))) (bJ (i:=2) ij.nd rfl (by trivial)) (@ah _ _ _ _ _ (@az _ _ 3 _ _ _ _ ij.nd rfl (by trivial) (au cm hr (@aa _ _ _ _ _ (pv 2) af rfl)) rfl (by trivial)) (@ai _ _ _ (aS ((iJ (cw (cn (aP cL (by rfl) B.isinstance Fn (@aa _ _ _ _ _ (pv 3) (@aa _ _ _ _ _ (dh (x:="bool") (v:=.ty "bool") (by rfl) B.bool boot_bool rfl) af rfl) rfl)))) (ip (aC kR (pv 3) (cy (au cM hr (@aa _ _ _ _ _ (pv 2) af rfl)) (bQ (oq mT mT ae (pv 2) (aj bC ae ae)))) (aA _)))).pt) (@ai _ _ _ (@aw _ _ _ _ eI)) aD)))) (@ai _ _ _ (@aw _ _ _ _ (cy (au cM hr (@aa _ _ _ _ _ (bw (v:=.int 1000000000) (by rfl) dF.choose_spec ⟨_,rfl⟩) af rfl)) (bQ (ba aV (bw (v:=.int 1000000000) (by rfl) dF.choose_spec ⟨_,rfl⟩) (aj bC ae ae) (aA _))))))),?_⟩;obtain⟨r',us,er,hr,zr⟩:=tR.tupE;cases er;have lu:=zr.len;have h9:(10:Int)^(9:Int).toNat=1000000000:=by decide+kernel
 obtain⟨u1,hu1,t1⟩:=zr.at (fA (ds:=ds) (i:=1) (by omega));obtain⟨u2,hu2,t2⟩:=zr.at (fA (ds:=ds) (i:=2) (by omega));obtain⟨u3,hu3,t3⟩:=zr.at (fA (ds:=ds) (i:=ds.length-1) (by omega));have at3:atI us (-1)=some u3:=CD (by rw[lu];exact hu3);refine⟨_,rfl,r,us,_,_,rfl,rfl,SqT.of hr,aB (j:=1) hu1,_,rfl,r,us,_,_,rfl,rfl,SqT.of hr,aB (j:=2) hu2,_,rfl,_,rfl,r,us,_,_,rfl,rfl,SqT.of hr,at3,_,rfl,?_⟩;refine⟨_,rfl,_,_,rfl,rfl,⟨by decide,by decide,by decide⟩,c,0,_,rfl,by decide,fun v4 d4 H4 s4 t4 f4 f5 f6=>?_⟩;refine⟨aK rfl,fun l hl=>⟨l,rfl,⟨_,SqL.of ag⟩,?_⟩⟩;have s5:=aq.upd (o:=.lst [u1,u2,u3,.ref r,v4]) hl;have h5:(upd H4 l (.lst [u1,u2,u3,.ref r,v4])) l=some (.lst [u1,u2,u3,.ref r,v4]):=ag;generalize (upd H4 l (.lst [u1,u2,u3,.ref r,v4]))=H5 at s5 h5 ⊢;have td:TDs H5 [thg ds 1,thg ds 2,thg ds (ds.length-1),.tuple ds,d4] [u1,u2,u3,.ref r,v4]:=.cons (t1.same (s4.trans s5)) (.cons (t2.same (s4.trans s5)) (.cons (t3.same (s4.trans s5)) (.cons (tR.same (s4.trans s5)) (.cons (t4.same s5) .nil))));refine jl (K:=K) (a:=l) (xs:=[u1,u2,u3,.ref r,v4]) (fun i σ H6=>∃o2 o3,σ=[some (.ref r),some (.int c),o2,o3]/\H6=H5) ⟨none,none,rfl,rfl⟩ (fun i σ H6 _ hPz=>hPz.elim fun _ hPz=>hPz.elim fun _ hPz=>(fun e=>by rw[e];exact SqL.of h5) (hPz.2)) ?_ ?_
 ·rintro i y σ H6 hi ⟨o2,o3,rfl,rfl⟩;refine oX ?_;intro kD1;obtain⟨d,hd,ty⟩:=td.of hi;refine⟨_,rfl,y,d,rfl,ty,?_⟩;have kb:=oV K (dJ.bl (K:=K) (H:=H6) (wi 0 1000000000 d));refine⟨_,rfl,_,_,_,_,rfl,dJ.bl _,kb,_,rfl,bP ?_⟩;cases ty with
  |int i=>
   refine⟨_,rfl,_,rfl,_,"int",rfl,dJ.int _,_,rfl,fL ⟨_,rfl,_,_,rfl,rfl,_,rfl,?_⟩⟩;have e:wi 0 1000000000 (.int i)=(decide (0<=i)&&decide (i<=1000000000)):=rfl;refine aT (fun z=>?_) (fun z=>?_)
   ·refine⟨_,_,rfl,rfl,⟨by decide,by decide,by decide⟩,_,_,rfl,rfl,rfl,_,rfl,?_⟩;simp only[e,z,h9,E1];exact aT (fun z'=>absurd z' (by simp)) (fun _=>⟨_,_,rfl,rfl⟩)
   ·rw[Fm]at z;refine⟨rfl,_,rfl,?_⟩;simp only[e,z,EO];exact aT (fun z'=>absurd z' (by simp)) (fun _=>⟨_,_,rfl,rfl⟩)
  |tup h z=>exact⟨_,rfl,_,rfl,_,_,rfl,dJ.tup h,_,rfl,bP ⟨rfl,_,rfl,bP ⟨_,_,rfl,rfl⟩⟩⟩
  |lst h z=>exact⟨_,rfl,_,rfl,_,_,rfl,dJ.lst h,_,rfl,bP ⟨rfl,_,rfl,bP ⟨_,_,rfl,rfl⟩⟩⟩
  |str x h z=>exact⟨_,rfl,_,rfl,_,_,rfl,dJ.str _,_,rfl,bP ⟨rfl,_,rfl,bP ⟨_,_,rfl,rfl⟩⟩⟩
  |bl b=>exact⟨_,rfl,_,rfl,_,_,rfl,dJ.bl _,_,rfl,bP ⟨rfl,_,rfl,bP ⟨_,_,rfl,rfl⟩⟩⟩
  |non=>exact⟨_,rfl,_,rfl,_,_,rfl,dJ.non,_,rfl,bP ⟨rfl,_,rfl,bP ⟨_,_,rfl,rfl⟩⟩⟩
 ·rintro σ H6 ⟨o2,o3,rfl,rfl⟩;refine⟨_,_,rfl,dJ.int _,_,rfl,fL ⟨_,_,rfl,rfl,⟨by decide,by decide,by decide⟩,rfl,?_⟩⟩;simp only[h9,decide_true];exact q _ (s4.trans s5)
def pR(K:Frag):Sp:=fun vs H Q _=>∃(a:Addr)(w h c:Nat),vs=[.ref a,.int c]/\SqT K H a [.int w,.int h]/\(0<w/\w<=8/\h<=8)/\c<2^(w*h)/\∀l ps H',H l=none->aq H H'->H' l=some (.lst (ps.map fun k:Nat=>V.int (k:Int)))->gv w h c ps->Q (.ref l) H'
variable(lH:Df P w K mg base 5 "pieces" ["floor","cells"] (pR K))
theorem hV:ay ["floor","cells","found","rest","taken"] ["floor","cells"] (ao (top 27)):=by trivial
include B nE lI in
theorem xW(T:Tx K mg "pieces" (top 27) ["floor","cells"]):Df P w K mg base 5 "pieces" ["floor","cells"] (pR K):=by
 refine T.df hV (by rintro _ _ _ _ ⟨a,w,h,c,rfl,hT,⟨hw,hw8,hh8⟩,hc,q⟩;rfl) ?_;rintro f _ A _ s H _ Q E hr ⟨a,w,h,c,rfl,hT,⟨hw,hw8,hh8⟩,hc,q⟩;refine bq ?_;intro kX;refine ar 3 (ai (aw (pv 2))) ?_;intro kR3 pR3;refine bU 2 2 (ai (az (i:=3) hV.nd rfl (by trivial) (aj mi (pv 3) (iK yy (pv 4))))) ?_;intro kS2x2 pS2x2;refine bU 2 1 (ah (de (hX EU EW EV bY (pv 2) (aa (pv 4) af))) pS2x2) ?_;intro kS2x1 pS2x1;refine bU 2 0 (ah (az (i:=4) hV.nd rfl (by trivial) (au nE hr (aa (pv 0) (aa (pv 3) (aa (au lI hr (aa (pv 3) af)) af))))) pS2x1) ?_;intro kS2x0 pS2x0;refine ar 2 (ah (jd FG (aC kR (pv 3) ae (aA _)) pS2x0) pR3) ?_;intro kR2 pR2;refine ar 1 (ah (az (i:=3) hV.nd rfl (by trivial) (pv 1)) pR2) ?_;intro kR1 pR1;refine⟨_,(ah (az (i:=2) hV.nd rfl (by trivial) (bK af)) pR1),?_⟩;have hwh:w*h<=64:=Fw hw8 hh8;have p64:2^(w*h)<=2^64:=EN (by decide) hwh;have hc64:c<2^64:=EB hc p64;refine⟨EH _,fun l hl=>?_⟩;have s0:=aq.upd (o:=.lst []) hl;refine⟨_,rfl,?_⟩;refine⟨fun m σ H2=>∃(r:Nat)(xs:List Nat)(o:Option V),σ=[some (.ref a),some (.int c),some (.ref l),some (.int r),o]/\r=m/\r<2^(w*h)/\SX l (upd H l (.lst [])) H2/\H2 l=some (.lst (xs.map fun k:Nat=>V.int (k:Int)))/\(∀ps,gv w h r ps->gv w h c (xs++ps))/\∀j,r.testBit j=true->xs.length<=j,⟨_,c,[],none,rfl,rfl,hc,SX.refl _ _,ag,fun _ z=>z,fun _ _=>EH _⟩,?_⟩;rintro m σ H2 ⟨r,xs,o,rfl,rfl,hr',s2,hl2,hx,hlen⟩;refine⟨_,rfl,rfl,_,rfl,?_⟩;refine aT (fun hb=>⟨_,fun _ _ z=>z,?_⟩) (fun hb=>?_)
 ·have hr0:=mV hb;have hr64:r<2^64:=EB hr' p64;have hT2:SqT K H2 a [.int w,.int h]:=(SX.same hl s0 s2).tup hT;obtain⟨l1,l2,_⟩:=ia hr64 hr0;have lx:=hlen _ l1;have ll:=Ce hr' hwh hr0;refine⟨_,rfl,_,rfl,_,rfl,r,rfl,hr64,fun z=>absurd z hr0,fun _=>⟨a,w,h,r,ib r,rfl,hT2,⟨hw,hw8,hh8⟩,hr',fun p H3 hp s3=>?_⟩⟩;have hl3:=s3 _ _ hl2;obtain⟨q1,q2,q3⟩:=zU hr64 hr0 hp;refine⟨_,rfl,.inl ⟨rfl,_,SqL.of hl3⟩,_,rfl,l,_,_,rfl,rfl,hl3,?_,?_⟩
  ·exact aM (by rw[Ew];omega)
  refine⟨_,rfl,_,rfl,_,rfl,_,_,rfl,rfl,?_⟩;refine⟨_,zP (fun j hj=>hp.sub hj) q1,dif r p,xs++[p],some (.int p),(by simp only[ke];rfl),rfl,zO hr',s2.trans ((SX.of s3).trans SX.set),(by rw[ag,EK];rfl),fun ps z=>?_,fun j hj=>?_⟩
  ·rw[FQ];exact hx _ (.cons hr0 hp z)
  ·rw[jw,EL]at hj;rw[EC,Fq];have h1:ib r<=j:=by
    rcases Nat.lt_or_ge j (ib r)with z|z
    ·rw[l2 j z]at hj;cases hj.1
    ·exact z
   have h2:ib r≠j:=fun z=>by rw[<-z,q3]at hj;cases hj.2
   omega
 ·have hr0:=mW hb;subst hr0;have:=hx [] .nil;rw[E2]at this;exact⟨_,rfl,q l xs H2 hl (SX.same hl s0 s2) hl2 this⟩
def jH(K:Frag):Sp:=fun vs H Q _=>∃(v:V)(d:PyData),vs=[v]/\TD H d v/\d.depth<=4/\∀H',aq H H'->Q (.bl (fv d)) H'
variable(fQ:Df P w K mg base 5 "is_holding" ["thing"] (jH K))
theorem pA:ay ["thing"] ["thing"] (ao (top 49)):=by trivial
include B cG ck eZ in
theorem pH(T:Tx K mg "is_holding" (top 49) ["thing"]):Df P w K mg base 5 "is_holding" ["thing"] (jH K):=by
 refine T.df pA (by rintro _ _ _ _ ⟨v,d,rfl,hd,dep,q⟩;rfl) ?_;rintro f _ A _ s H _ Q E hr ⟨v,d,rfl,hd,dep,q⟩;refine⟨_,(ai (aw (cy (au cG hr (aa (pv 0) (aa ae af))) (cy (au ck hr (aa (aF aG (pv 0) ae (fun _ _=>rfl)) af)) (bQ (au eZ hr (aa (aF aG (pv 0) ae (fun _ _=>rfl)) af))))))),?_⟩;refine⟨_,rfl,v,d,2,rfl,hd,_,rfl,?_⟩;have no:(∀x y,d≠ .tuple [x,y])->Q (.bl false) H:=fun z=>by have:=q _ (aq.refl H);rw[uB z]at this;exact this
 cases hd with
 | @tup a vs ds h z=>
  by_cases l2:ds.length=2
  ·obtain⟨x,y,rfl⟩:∃x y,ds=[x,y]:=match ds,l2 with| [x,y],_=>⟨x,y,rfl⟩
   cases z with
   | @cons _ v0 _ _ z0 z=>
   cases z with
   | @cons _ v1 _ _ z1 z=>
   cases z;have dx:x.depth<=4:=by have:max x.depth (max y.depth 0)+1<=4:=dep;omega
   refine fL ⟨_,rfl,a,_,_,_,rfl,rfl,SqT.of h,aB (j:=0) rfl,v0,x,rfl,z0.thg dx,fun H1 s1=>⟨_,rfl,?_⟩⟩;have e:fv (.tuple [x,y])=(nmD x&&eD y):=rfl;rw[e]at q;refine aT (fun n=>?_) (fun n=>?_)
   ·rw[n,E1]at q;exact⟨_,rfl,a,_,_,_,rfl,rfl,SqT.of (s1 _ _ h),aB (j:=1) rfl,v1,y,rfl,z1.same s1,fun H2 s2=>q _ (s1.trans s2)⟩
   ·rw[Fm]at n;rw[n,EO]at q;exact q _ s1
  ·refine aT (fun z=>absurd (show decide (ds.length=2)=true from z) (by rw[EI l2];exact EE)) (fun _=>no fun x y e=>l2 (by cases e;rfl))
 |_=>exact bP (no fun x y e=>nomatch e)
def kz(K:Frag):Sp:=spG K .part
variable(gK:Df P w K mg base 5 "good_part" ["floor","row","place"] (kz K))
theorem qI:ay ["floor","row","place"] ["floor","row","place"] (ao (top 63)):=by trivial
include B eZ in
theorem rj(T:Tx K mg "good_part" (top 63) ["floor","row","place"]):Df P w K mg base 5 "good_part" ["floor","row","place"] (kz K):=by refine T.df qI (by rintro _ _ _ _ ⟨fl,r,w,h,p,ds,rfl,hF,⟨hw,hw8⟩,⟨hh,hh8⟩,rr,⟨p1,pl⟩,pre,q⟩;rfl) ?_;rintro f _ A _ s H _ Q E hr ⟨fl,r,w,h,p,ds,rfl,hF,⟨hw,hw8⟩,⟨hh,hh8⟩,rr,⟨p1,pl⟩,pre,q⟩;refine⟨_,(ai (aw (au eZ hr (aa (aF aG (pv 1) (pv 2) (fun _ _=>rfl)) af)))),?_⟩;obtain⟨vs,v,hr1,ev,td,dep⟩:=rr.at pl;exact⟨_,rfl,_,rfl,r,_,_,_,rfl,rfl,SqT.of hr1,aB ev,v,_,rfl,td,q⟩
def mK(K:Frag):Sp:=fun vs H Q _=>∃(a:Addr)(ns:List Int)(w h:Nat),vs=[.ref a,.int (w:Nat),.int (h:Nat)]/\SqL K H a (ns.map V.int)/\(0<w/\w<=8)/\(0<h/\h<=8)/\∀l ds H',aq H H'->TD H' (.tuple ds) (.ref l)->dX w h (.tuple ds)=none->PyData.depthAll ds<=3->Q (.ref l) H'
variable(iw:Df P w K mg base 5 "_law_good" ["_law_script","_law_wide","_law_high"] (mK K))
theorem bG:ay ["_law_script","_law_wide","_law_high","_law_way","_law_kind","_law_cell","_law_more","_law_at","_law_head","_law_burden","_law_one","_law_other","_law_names"] ["_law_script","_law_wide","_law_high"] (ao (top 93)):=by trivial
include B aU bz av bg gm bS bZ du jx b6 in
theorem tV(T:Tx K mg "_law_good" (top 93) ["_law_script","_law_wide","_law_high"]):Df P w K mg base 5 "_law_good" ["_law_script","_law_wide","_law_high"] (mK K):=by
 refine T.df bG (by rintro _ _ _ _ ⟨a,ns,w,h,rfl,hS,⟨hw,hw8⟩,⟨hh,hh8⟩,q⟩;rfl) ?_;rintro f _ A _ s H _ Q E hr ⟨a,ns,w,h,rfl,hS,⟨hw,hw8⟩,⟨hh,hh8⟩,q⟩;refine⟨_,(@ah _ _ _ _ _ (@az _ _ 3 _ _ _ _ bG.nd rfl (by trivial) (aj cb (au aU hr (@aa _ _ _ _ _ (pv 0) (@aa _ _ _ _ _ ae af rfl) rfl)) ae) rfl (by trivial)) (@ah _ _ _ _ _ (@az _ _ 4 _ _ _ _ bG.nd rfl (by trivial) (@aF _ _ _ _ _ _ _ bH (@bK _ _ _ _ (@aa _ _ _ _ _ aO (@aa _ _ _ _ _ aO (@aa _ _ _ _ _ aO (@aa _ _ _ _ _ aO (@aa _ _ _ _ _ aO (@aa _ _ _ _ _ aO (@aa _ _ _ _ _ aO af rfl) rfl) rfl) rfl) rfl) rfl) rfl)) (aj aY (au aU hr (@aa _ _ _ _ _ (pv 0) (@aa _ _ _ _ _ ae af rfl) rfl)) ae) (fun _ _=>rfl)) rfl (by trivial)) (@ah _ _ _ _ _ (@az _ _ 5 _ _ _ _ bG.nd rfl (by trivial) (au aU hr (@aa _ _ _ _ _ (pv 0) (@aa _ _ _ _ _ ae af rfl) rfl)) rfl (by trivial)) (@ah _ _ _ _ _ (@az _ _ 6 _ _ _ _ bG.nd rfl (by trivial) (au aU hr (@aa _ _ _ _ _ (pv 0) (@aa _ _ _ _ _ ae af rfl) rfl)) rfl (by trivial)) (@ah _ _ _ _ _ (@az _ _ 7 _ _ _ _ bG.nd rfl (by trivial) (aj aY (au aU hr (@aa _ _ _ _ _ (pv 0) (@aa _ _ _ _ _ ae af rfl) rfl)) (aj bN (pv 1) (pv 2))) rfl (by trivial)) (bj (aS ((gg (aC aV (pv 4) aO (aA _)) (e8 (aC aV (aj bN (pv 1) (pv 2)) ae (aA _)))).pt) (@ai _ _ _ (@az _ _ 4 _ _ _ _ bG.nd rfl (by trivial) aO rfl (by trivial))) aD) (@ah _ _ _ _ _ (@az _ _ 8 _ _ _ _ bG.nd rfl (by trivial) (@bu _ _ _ _ _ (@aa _ _ _ _ _ (pv 4) (@aa _ _ _ _ _ (au bz hr (@aa _ _ _ _ _ (au aU hr (@aa _ _ _ _ _ (pv 0) (@aa _ _ _ _ _ ae af rfl) rfl)) (@aa _ _ _ _ _ ae (@aa _ _ _ _ _ ae (@aa _ _ _ _ _ (aj bC ae ae) af rfl) rfl) rfl) rfl)) (@aa _ _ _ _ _ (au bz hr (@aa _ _ _ _ _ (au aU hr (@aa _ _ _ _ _ (pv 0) (@aa _ _ _ _ _ ae af rfl) rfl)) (@aa _ _ _ _ _ ae (@aa _ _ _ _ _ ae (@aa _ _ _ _ _ (aj bC ae ae) af rfl) rfl) rfl) rfl)) af rfl) rfl) rfl)) rfl (by trivial)) (@ah _ _ _ _ _ (@az _ _ 8 _ _ _ _ bG.nd rfl (by trivial) (aj dP (pv 8) (@bu _ _ _ _ _ (@aa _ _ _ _ _ (cJ fk (by rfl) B.tuple boot_tuple (@aa _ _ _ _ _ (au bS hr (@aa _ _ _ _ _ (au aU hr (@aa _ _ _ _ _ (pv 0) (@aa _ _ _ _ _ ae af rfl) rfl)) (@aa _ _ _ _ _ (pv 3) (@aa _ _ _ _ _ ae af rfl) rfl) rfl)) af rfl)) af rfl))) rfl (by trivial)) (@ah _ _ _ _ _ (@az _ _ 9 _ _ _ _ bG.nd rfl (by trivial) (au bz hr (@aa _ _ _ _ _ (pv 5) (@aa _ _ _ _ _ ae (@aa _ _ _ _ _ ae (@aa _ _ _ _ _ (aj bC ae ae) af rfl) rfl) rfl) rfl)) rfl (by trivial)) (@ah _ _ _ _ _ (aS (aC aV (pv 4) aO (aA _)) (@ai _ _ _ (@aw _ _ _ _ (aj dP (pv 8) (@bu _ _ _ _ _ (@aa _ _ _ _ _ (au bZ hr (@aa _ _ _ _ _ (pv 5) (@aa _ _ _ _ _ (pv 1) (@aa _ _ _ _ _ (pv 2) af rfl) rfl) rfl)) (@aa _ _ _ _ _ (au du hr (@aa _ _ _ _ _ (pv 6) (@aa _ _ _ _ _ (pv 3) af rfl) rfl)) af rfl) rfl))))) aD) (@ah _ _ _ _ _ (aS (aC aV (pv 4) aO (aA _)) (@ai _ _ _ (@aw _ _ _ _ (aj dP (pv 8) (@bu _ _ _ _ _ (@aa _ _ _ _ _ (pv 7) (@aa _ _ _ _ _ (@aF _ _ _ _ _ _ _ bH (@bK _ _ _ _ (@aa _ _ _ _ _ aO (@aa _ _ _ _ _ aO af rfl) rfl)) (aj aY (pv 5) ae) (fun _ _=>rfl)) (@aa _ _ _ _ _ (au bz hr (@aa _ _ _ _ _ (pv 6) (@aa _ _ _ _ _ ae (@aa _ _ _ _ _ ae (@aa _ _ _ _ _ ae af rfl) rfl) rfl) rfl)) af rfl) rfl) rfl))))) aD) (@ah _ _ _ _ _ (aS (aC aV (pv 4) aO (aA _)) (@ai _ _ _ (@aw _ _ _ _ (aj dP (pv 8) (@bu _ _ _ _ _ (@aa _ _ _ _ _ (pv 7) (@aa _ _ _ _ _ (aj aY (aj bf (aj bf (pv 7) ae) (aj aY (pv 5) (aj aZ (aj bN (pv 1) (pv 2)) ae))) (aj bN (pv 1) (pv 2))) af rfl) rfl))))) aD) (@ah _ _ _ _ _ (aS (aC aV (pv 4) aO (aA _)) (@ai _ _ _ (@aw _ _ _ _ (aj dP (pv 8) (@bu _ _ _ _ _ (@aa _ _ _ _ _ (pv 7) (@aa _ _ _ _ _ (pv 9) af rfl) rfl))))) aD) (@ah _ _ _ _ _ (aS (aC aV (pv 4) aO (aA _)) (@ai _ _ _ (@aw _ _ _ _ (aj dP (pv 8) (@bu _ _ _ _ _ (@aa _ _ _ _ _ (pv 7) (@aa _ _ _ _ _ (pv 9) (@aa _ _ _ _ _ (aj bf (aj aY (aj bf (pv 9) (aj aY (pv 6) (aj aZ (aj bC ae ae) ae))) (aj bC ae ae)) ae) af rfl) rfl) rfl))))) aD) (@ah _ _ _ _ _ (aS (aC aV (pv 4) aO (aA _)) (@ai _ _ _ (@aw _ _ _ _ (aj dP (aj dP (pv 8) (au jx hr (@aa _ _ _ _ _ (pv 5) (@aa _ _ _ _ _ (pv 6) (@aa _ _ _ _ _ (pv 7) (@aa _ _ _ _ _ (pv 1) (@aa _ _ _ _ _ (pv 2) (@aa _ _ _ _ _ (pv 3) af rfl) rfl) rfl) rfl) rfl) rfl))) (au gm hr (@aa _ _ _ _ _ (pv 6) (@aa _ _ _ _ _ (pv 7) (@aa _ _ _ _ _ (pv 1) (@aa _ _ _ _ _ (pv 2) af rfl) rfl) rfl) rfl))))) aD) (@ah _ _ _ _ _ (@az _ _ 10 _ _ _ _ bG.nd rfl (by trivial) (au av hr (@aa _ _ _ _ _ (pv 5) (@aa _ _ _ _ _ ae (@aa _ _ _ _ _ ae af rfl) rfl) rfl)) rfl (by trivial)) (@ah _ _ _ _ _ (@az _ _ 11 _ _ _ _ bG.nd rfl (by trivial) (aj aY (aj bf (aj bf (pv 10) ae) (au av hr (@aa _ _ _ _ _ (pv 5) (@aa _ _ _ _ _ ae (@aa _ _ _ _ _ ae af rfl) rfl) rfl))) ae) rfl (by trivial)) (@ah _ _ _ _ _ (@az _ _ 12 _ _ _ _ bG.nd rfl (by trivial) (@bu _ _ _ _ _ (@aa _ _ _ _ _ (au bg hr (@aa _ _ _ _ _ (pv 10) (@aa _ _ _ _ _ (pv 3) af rfl) rfl)) (@aa _ _ _ _ _ (au bg hr (@aa _ _ _ _ _ (pv 11) (@aa _ _ _ _ _ (pv 3) af rfl) rfl)) af rfl) rfl)) rfl (by trivial)) (@ai _ _ _ (@aw _ _ _ _ (aj dP (aj dP (aj dP (aj dP (pv 8) (@bu _ _ _ _ _ (@aa _ _ _ _ _ (pv 7) af rfl))) (pv 12)) (@bu _ _ _ _ _ (@aa _ _ _ _ _ (au b6 hr (@aa _ _ _ _ _ (pv 6) af rfl)) af rfl))) (au gm hr (@aa _ _ _ _ _ (pv 6) (@aa _ _ _ _ _ (pv 7) (@aa _ _ _ _ _ (pv 1) (@aa _ _ _ _ _ (pv 2) af rfl) rfl) rfl) rfl))))))))))))))))))))))),?_⟩;have h9:(10:Int)^(9:Int).toNat=1000000000:=by decide+kernel
 have hwh:w*h<=64:=Fw hw8 hh8;have hwp:0<w*h:=Nat.mul_pos hw hh;have e1:((w:Int)*(h:Int))=((w*h:Nat):Int):=by simp
 refine⟨_,rfl,a,ns,0,rfl,hS,_,_,rfl,rfl,⟨by decide,by decide⟩,?_⟩;obtain⟨y,ey⟩:∃y:Int,ns.getD 0 0 / 64=y:=⟨_,rfl⟩;simp only[ey];refine⟨aK rfl,fun l0 hl0=>?_⟩;have u0:=aq.upd (o:=.lst [.str "grant",.str "cut",.str "join",.str "give",.str "lay",.str "lift",.str "waive"]) hl0;have g0:(upd H l0 (.lst [.str "grant",.str "cut",.str "join",.str "give",.str "lay",.str "lift",.str "waive"])) l0=some (.lst [.str "grant",.str "cut",.str "join",.str "give",.str "lay",.str "lift",.str "waive"]):=ag;generalize (upd H l0 (.lst [.str "grant",.str "cut",.str "join",.str "give",.str "lay",.str "lift",.str "waive"]))=H1 at u0 g0 ⊢;have hS1:=u0.seq hS;have m0:=E5 (ns.getD 1 0) (show(7:Int)≠0 by decide);have m1:=E3 (ns.getD 1 0) (show(0:Int)<7 by decide);obtain⟨x0,ek,hx0⟩:∃x:Str,atI [V.str "grant",.str "cut",.str "join",.str "give",.str "lay",.str "lift",.str "waive"] (ns.getD 1 0 % 7)=some (.str x)/\x∈(["grant","cut","join","give","lay","lift","waive"]:List Str):=by
  rcases (show ns.getD 1 0 % 7=0\/ns.getD 1 0 % 7=1\/ns.getD 1 0 % 7=2\/ns.getD 1 0 % 7=3\/ns.getD 1 0 % 7=4\/ns.getD 1 0 % 7=5\/ns.getD 1 0 % 7=6 by omega)with e|e|e|e|e|e|e<;>rw[e]
  ·exact⟨"grant",rfl,by simp⟩
  ·exact⟨"cut",rfl,by simp⟩
  ·exact⟨"join",rfl,by simp⟩
  ·exact⟨"give",rfl,by simp⟩
  ·exact⟨"lay",rfl,by simp⟩
  ·exact⟨"lift",rfl,by simp⟩
  ·exact⟨"waive",rfl,by simp⟩
 refine⟨_,rfl,a,ns,1,rfl,hS1,_,_,rfl,rfl,(by show(0:Int)<7;decide),l0,_,_,_,rfl,rfl,SqL.of g0,ek,?_⟩;refine⟨_,rfl,a,ns,4,rfl,hS1,?_⟩;refine⟨_,rfl,a,ns,5,rfl,hS1,?_⟩;refine⟨_,rfl,a,ns,6,rfl,hS1,_,rfl,_,rfl,_,_,rfl,rfl,.inl ⟨by omega,by omega⟩,_,_,rfl,rfl,(by show 0<((w:Nat):Int)*((h:Nat):Int);rw[e1];omega),?_⟩;have k0:=E5 (ns.getD 6 0) (show((w:Nat):Int)*((h:Nat):Int)≠0 by rw[e1];omega);have k1:=E3 (ns.getD 6 0) (show 0<((w:Nat):Int)*((h:Nat):Int) by rw[e1];omega);obtain⟨k,ek'⟩:=F7 k0;have hk:k<w*h:=by omega
 obtain⟨c,ec⟩:∃c:Int,ns.getD 4 0=c:=⟨_,rfl⟩;obtain⟨m,em⟩:∃m:Int,ns.getD 5 0=m:=⟨_,rfl⟩;have ek2:ns.getD 6 0 % (((w:Nat):Int)*((h:Nat):Int))=((k:Nat):Int):=ek';simp only[ek2,ec,em];refine⟨fun σ' H'=>∃x:Str,σ'=[some (.ref a),some (.int (w:Nat)),some (.int (h:Nat)),some (.int y),some (.str x),some (.int c),some (.int m),some (.int (k:Nat)),none,none,none,none,none]/\H'=H1/\x∈(["grant","cut","join","give","lay","lift","waive"]:List Str)/\(x="join"->1<w*h),?_,?_⟩
 ·refine dW ?_;intro kD1;refine⟨_,rfl,rfl,_,rfl,?_⟩;refine aT (fun h1=>?_) (fun h1=>?_)
  ·refine⟨_,rfl,_,rfl,_,_,rfl,rfl,.inl ⟨by omega,by omega⟩,rfl,_,rfl,?_⟩;refine aT (fun h2=>?_) (fun h2=>?_)
   ·exact⟨"lift",rfl,rfl,by simp,fun z=>absurd z (by decide+kernel)⟩
   ·refine⟨x0,rfl,rfl,hx0,fun _=>?_⟩;have:¬((w:Nat):Int)*((h:Nat):Int)=1:=fun z=>h2 (Ey (congrArg V.int z));rw[e1]at this;omega
  ·exact bP ⟨x0,rfl,rfl,hx0,fun z=>absurd (by rw[z];exact Ey rfl) h1⟩
 rintro σ' H2 ⟨x,rfl,rfl,hx,hj⟩;refine⟨_,rfl,_,rfl,a,ns,2,rfl,hS1,_,_,rfl,rfl,⟨by decide,by decide,by decide⟩,_,1,_,1,rfl,by decide,by decide,fun n H2 s2 n1 n2=>?_⟩;refine⟨_,rfl,a,ns,3,rfl,s2.seq hS1,_,_,rfl,rfl,⟨by decide,by decide,by decide⟩,_,0,_,2,rfl,by decide,by decide,fun d H3 s3 d1 d2=>?_⟩;rw[h9]at n2 d2;refine⟨aK rfl,fun lh hlh=>?_⟩;have s4:=aq.upd (o:=.tup [.str x,.int n,.int d]) hlh;have g4:(upd H3 lh (.tup [.str x,.int n,.int d])) lh=some (.tup [.str x,.int n,.int d]):=ag;generalize (upd H3 lh (.tup [.str x,.int n,.int d]))=H4 at s4 g4 ⊢;have t4:=u0.trans (s2.trans (s3.trans s4));refine⟨_,rfl,_,rfl,a,ns,7,rfl,t4.seq hS,_,rfl,_,y,rfl,fun l5 f5 m5 H5 s5 fm5 m12 h5=>?_⟩;refine⟨l5,_,rfl,.inl ⟨SqL.of h5,fun l6 hl6=>?_⟩⟩;have s6:=aq.upd (o:=.tup ((bA y f5 m5).map V.str)) hl6;have g6:(upd H5 l6 (.tup ((bA y f5 m5).map V.str))) l6=some (.tup ((bA y f5 m5).map V.str)):=ag;generalize (upd H5 l6 (.tup ((bA y f5 m5).map V.str)))=H6 at s6 g6 ⊢;refine⟨aK rfl,fun l7 hl7=>?_⟩;have s7:=aq.upd (o:=.tup [.ref l6]) hl7;refine⟨lh,l7,[.str x,.int n,.int d],[.ref l6],rfl,rfl,SqT.of ((s5.trans (s6.trans s7)) _ _ g4),SqT.of ag,nofun,Et rfl,nofun,fun _ l8 hl8=>?_⟩;have s8:=s7.trans (aq.upd (o:=.tup ([.str x,.int n,.int d]++[.ref l6])) hl8);have g8:(upd (upd H6 l7 (.tup [.ref l6])) l8 (.tup ([.str x,.int n,.int d]++[.ref l6]))) l8=some (.tup [.str x,.int n,.int d,.ref l6]):=ag;generalize (upd (upd H6 l7 (.tup [.ref l6])) l8 (.tup ([.str x,.int n,.int d]++[.ref l6])))=H8 at s8 g8 ⊢;refine⟨_,rfl,_,_,rfl,rfl,⟨by decide,by decide,by decide⟩,c,1,_,37,rfl,by decide,by decide,fun b H9 s9 b1 b2=>?_⟩;rw[h9]at b2;have t9:=t4.trans (s5.trans (s6.trans (s8.trans s9)));have tS:TD H9 (.tuple ((bA y f5 m5).map PyData.str)) (.ref l6):=.tup ((s8.trans s9) _ _ g6) (nv (oP fm5));have hs:=BR fm5 m12 (w:=y);have g9:=s9 _ _ g8;have dS:(PyData.tuple ((bA y f5 m5).map PyData.str)).depth<=1:=by show PyData.depthAll _+1<=1;rw[rW];exact EG 1
 obtain⟨S,eS⟩:∃S,PyData.tuple ((bA y f5 m5).map PyData.str)=S:=⟨_,rfl⟩;rw[eS]at tS hs dS;have lxs:∀i∈(["grant","cut","join","give","lay","lift","waive"]:List Str),i.cps.all (·<128)=true/\i.length<=100/\PyData.canLay0 (.str i)=true:=by decide+kernel
 obtain⟨lx1,lx2,lx3⟩:=lxs x hx;have hd4:TDs H9 [.str x,.int n,.int d,S] [.str x,.int n,.int d,.ref l6]:=.cons (.str _ ⟨lx1,lx2⟩ lx3) (.cons (.int _) (.cons (.int _) (.cons tS .nil)));clear lxs;have fin:∀(l:Addr)(vs:List V)(ds:List PyData)(H':Hp),aq H9 H'->H' l=some (.tup ([.str x,.int n,.int d,.ref l6]++vs))->TDs H' ds vs->dX w h (.tuple (.str x:: .int n:: .int d::S::ds))=none->PyData.depthAll ds<=3->Q (.ref l) H':=fun l vs ds H' s' hl tv bad dep=>
  q l (.str x:: .int n:: .int d::S::ds) H' (t9.trans s') (.tup hl ((hd4.same s').app tv)) bad (by
   show max 0 (max 0 (max 0 (max S.depth (PyData.depthAll ds))))<=3
   omega)
 refine⟨_,rfl,rfl,_,rfl,?_⟩;refine aT (fun hg=>?_) (fun hg=>?_)
 ·cases (V.str.inj (EA hg):x="grant");refine⟨_,rfl,_,rfl,_,rfl,_,rfl,c,w,h,rfl,⟨hw,hw8⟩,⟨hh,hh8⟩,fun p HA sA hp=>?_⟩;refine⟨_,rfl,_,rfl,m,y,rfl,fun lB dB HB sB tB shB lenB depB=>?_⟩;refine⟨aK rfl,fun lC hlC=>?_⟩;have sC:=aq.upd (o:=.tup [.int (p:Nat),.ref lB]) hlC;refine⟨l8,lC,[.str "grant",.int n,.int d,.ref l6],[.int (p:Nat),.ref lB],rfl,rfl,SqT.of ((sA.trans (sB.trans sC)) _ _ g9),SqT.of ag,nofun,Et rfl,nofun,fun _ lD hlD=>?_⟩;have sD:=sC.trans (aq.upd (o:=.tup ([.str "grant",.int n,.int d,.ref l6]++[.int (p:Nat),.ref lB])) hlD);refine fin lD _ [.int (p:Nat),.tuple dB] _ (sA.trans (sB.trans sD)) ag (.cons (.int _) (.cons (tB.same sD) .nil)) (xM ⟨n1,n2⟩ ⟨d1,d2⟩ hs hp shB) ?_;show max 0 (max (PyData.depthAll dB+1) 0)<=3;omega
 refine⟨_,rfl,rfl,_,rfl,?_⟩;refine aT (fun hc=>?_) (fun hc=>?_)
 ·cases (V.str.inj (EA hc):x="cut");refine⟨_,rfl,_,rfl,aK rfl,fun lA hlA=>?_⟩;have sA:=aq.upd (o:=.lst [.str "x",.str "y"]) hlA;have gA:(upd H9 lA (.lst [.str "x",.str "y"])) lA=some (.lst [.str "x",.str "y"]):=ag;generalize (upd H9 lA (.lst [.str "x",.str "y"]))=HA at sA gA ⊢;obtain⟨ax,ea,hax⟩:∃ax:Str,atI [V.str "x",.str "y"] (c % 2)=some (.str ax)/\ax∈(["x","y"]:List Str):=by
   rcases (show c % 2=0\/c % 2=1 by omega)with e|e<;>rw[e]
   ·exact⟨"x",rfl,by simp⟩
   ·exact⟨"y",rfl,by simp⟩
  refine⟨_,rfl,_,_,rfl,rfl,(by show(0:Int)<2;decide),lA,_,_,_,rfl,rfl,SqL.of gA,ea,?_⟩;refine⟨_,rfl,m,0,8,38,rfl,by decide,by decide,fun i HB sB i1 i2=>?_⟩;refine⟨aK rfl,fun lC hlC=>?_⟩;have sC:=aq.upd (o:=.tup [.int (k:Nat),.str ax,.int i]) hlC;refine⟨l8,lC,[.str "cut",.int n,.int d,.ref l6],[.int (k:Nat),.str ax,.int i],rfl,rfl,SqT.of ((sA.trans (sB.trans sC)) _ _ g9),SqT.of ag,nofun,Et rfl,nofun,fun _ lD hlD=>?_⟩;exact fin lD _ [.int (k:Nat),.str ax,.int i] _ (sA.trans (sB.trans (sC.trans (aq.upd hlD)))) ag (.cons (.int _) (.cons (DJ hax) (.cons (.int _) .nil))) (AA ⟨n1,n2⟩ ⟨d1,d2⟩ hs hk (Ey hax) ⟨i1,i2⟩) (EH _)
 refine⟨_,rfl,rfl,_,rfl,?_⟩;refine aT (fun hi=>?_) (fun hi=>?_)
 ·cases (V.str.inj (EA hi):x="join");have hw2:=hj rfl;have r0:=E5 c (show((w:Nat):Int)*((h:Nat):Int)-1≠0 by rw[e1];omega);have r1:=E3 c (show 0<((w:Nat):Int)*((h:Nat):Int)-1 by rw[e1];omega);obtain⟨⟨j0,j1⟩,jn⟩:=next_ne (N:=((w:Nat):Int)*((h:Nat):Int)) (k:=((k:Nat):Int)) (by omega) (by rw[e1];omega) r0 r1;refine⟨_,rfl,_,rfl,_,rfl,_,_,rfl,rfl,_,rfl,_,rfl,_,rfl,_,_,rfl,rfl,.inl ⟨by omega,by omega⟩,_,_,rfl,rfl,_,_,rfl,rfl,(by show 0<((w:Nat):Int)*((h:Nat):Int)-1;rw[e1];omega),_,_,rfl,rfl,_,rfl,_,rfl,_,_,rfl,rfl,.inl ⟨by omega,by omega⟩,_,_,rfl,rfl,(by show 0<((w:Nat):Int)*((h:Nat):Int);rw[e1];omega),aK rfl,fun lC hlC=>?_⟩;obtain⟨j,ej⟩:=F7 j0;have ej':(((k:Nat):Int)+1+c % (((w:Nat):Int)*((h:Nat):Int)-1)) % (((w:Nat):Int)*((h:Nat):Int))=((j:Nat):Int):=ej;rw[ej']at j1 jn;simp only[ej'];have sC:=aq.upd (o:=.tup [.int (k:Nat),.int (j:Nat)]) hlC;refine⟨l8,lC,[.str "join",.int n,.int d,.ref l6],[.int (k:Nat),.int (j:Nat)],rfl,rfl,SqT.of (sC _ _ g9),SqT.of ag,nofun,Et rfl,nofun,fun _ lD hlD=>?_⟩;exact fin lD _ [.int (k:Nat),.int (j:Nat)] _ (sC.trans (aq.upd hlD)) ag (.cons (.int _) (.cons (.int _) .nil)) (yN ⟨n1,n2⟩ ⟨d1,d2⟩ hs hk (by rw[e1]at j1;omega) (by omega)) (EH _)
 refine⟨_,rfl,rfl,_,rfl,?_⟩;refine aT (fun hl=>?_) (fun hl=>?_)
 ·cases (V.str.inj (EA hl):x="lift");refine⟨_,rfl,_,rfl,_,rfl,aK rfl,fun lC hlC=>?_⟩;have sC:=aq.upd (o:=.tup [.int (k:Nat),.int b]) hlC;refine⟨l8,lC,[.str "lift",.int n,.int d,.ref l6],[.int (k:Nat),.int b],rfl,rfl,SqT.of (sC _ _ g9),SqT.of ag,nofun,Et rfl,nofun,fun _ lD hlD=>?_⟩;exact fin lD _ [.int (k:Nat),.int b] _ (sC.trans (aq.upd hlD)) ag (.cons (.int _) (.cons (.int _) .nil)) (yM ⟨n1,n2⟩ ⟨d1,d2⟩ hs hk ⟨b1,b2⟩) (EH _)
 refine⟨_,rfl,rfl,_,rfl,?_⟩;refine aT (fun hv=>?_) (fun hv=>?_)
 ·cases (V.str.inj (EA hv):x="waive");have r0:=E5 m (show(10:Int)^(9:Int).toNat-1≠0 by decide);have r1:=E3 m (show 0<(10:Int)^(9:Int).toNat-1 by decide);obtain⟨⟨j0,j1⟩,jn⟩:=next_ne (N:=(10:Int)^(9:Int).toNat) (k:=b-1) (by omega) (by rw[h9];omega) r0 r1;refine⟨_,rfl,_,rfl,_,rfl,_,rfl,_,rfl,_,_,rfl,rfl,⟨by decide,by decide,by decide⟩,_,_,rfl,rfl,_,_,rfl,rfl,(by show 0<(10:Int)^(9:Int).toNat-1;decide),_,_,rfl,rfl,_,_,rfl,rfl,⟨by decide,by decide,by decide⟩,_,_,rfl,rfl,(by show 0<(10:Int)^(9:Int).toNat;decide),_,_,rfl,rfl,aK rfl,fun lC hlC=>?_⟩;have eb:b-1+1+m % ((10:Int)^(9:Int).toNat-1)=b+m % ((10:Int)^(9:Int).toNat-1):=by omega
  rw[eb]at j0 j1 jn;obtain⟨o,eo⟩:∃o:Int,(b+m % ((10:Int)^(9:Int).toNat-1)) % (10:Int)^(9:Int).toNat=o:=⟨_,rfl⟩;rw[eo]at j0 j1 jn;rw[h9]at j1;simp only[eo];have sC:=aq.upd (o:=.tup [.int (k:Nat),.int b,.int (o+1)]) hlC;refine⟨l8,lC,[.str "waive",.int n,.int d,.ref l6],[.int (k:Nat),.int b,.int (o+1)],rfl,rfl,SqT.of (sC _ _ g9),SqT.of ag,nofun,Et rfl,nofun,fun _ lD hlD=>?_⟩;exact fin lD _ [.int (k:Nat),.int b,.int (o+1)] _ (sC.trans (aq.upd hlD)) ag (.cons (.int _) (.cons (.int _) (.cons (.int _) .nil))) (xK ⟨n1,n2⟩ ⟨d1,d2⟩ hs hk ⟨b1,b2⟩ ⟨by omega,by omega⟩ (by omega)) (EH _)
 refine⟨_,rfl,rfl,_,rfl,?_⟩;refine aT (fun hy=>?_) (fun hy=>?_)
 ·cases (V.str.inj (EA hy):x="lay");refine⟨_,rfl,_,rfl,_,rfl,_,rfl,_,rfl,_,rfl,_,rfl,c,m,y,k,w,h,rfl,⟨hw,hw8⟩,⟨hh,hh8⟩,fun lA ks nx am un ov no HA sA hA lay=>?_⟩;refine⟨l8,lA,[.str "lay",.int n,.int d,.ref l6],[.int (k:Nat),.str ks,.str nx,.int am,.int un,.int ov,.int no],rfl,rfl,SqT.of (sA _ _ g9),SqT.of hA,nofun,Et rfl,nofun,fun _ lB hlB=>?_⟩;have sB:=sA.trans (aq.upd (o:=.tup ([.str "lay",.int n,.int d,.ref l6]++[.int (k:Nat),.str ks,.str nx,.int am,.int un,.int ov,.int no])) hlB);have gB:(upd HA lB (.tup ([.str "lay",.int n,.int d,.ref l6]++[.int (k:Nat),.str ks,.str nx,.int am,.int un,.int ov,.int no]))) lB=some (.tup ([.str "lay",.int n,.int d,.ref l6]++[.int (k:Nat),.str ks,.str nx,.int am,.int un,.int ov,.int no])):=ag;generalize (upd HA lB (.tup ([.str "lay",.int n,.int d,.ref l6]++[.int (k:Nat),.str ks,.str nx,.int am,.int un,.int ov,.int no])))=HB at sB gB ⊢;refine⟨_,rfl,_,rfl,_,rfl,_,rfl,m,k,w,h,rfl,⟨hw,hw8⟩,⟨hh,hh8⟩,hk,fun lC vg vt dg dt HC sC hC tg tt zg zt tl=>?_⟩;refine⟨lB,lC,_,_,rfl,rfl,SqT.of (sC _ _ gB),SqT.of hC,nofun,Et rfl,nofun,fun _ lD hlD=>?_⟩;have sD:=aq.upd (o:=.tup (([.str "lay",.int n,.int d,.ref l6]++[.int (k:Nat),.str ks,.str nx,.int am,.int un,.int ov,.int no])++[vg,vt])) hlD;refine fin lD [.int (k:Nat),.str ks,.str nx,.int am,.int un,.int ov,.int no,vg,vt] [.int (k:Nat),.str ks,.str nx,.int am,.int un,.int ov,.int no,dg,dt] _ (sB.trans (sC.trans sD)) ag (.cons (.int _) (.cons (Dw lay.kd) (.cons lay.nm.td (.cons (.int _) (.cons (.int _) (.cons (.int _) (.cons (.int _) (.cons (tg.same sD) (.cons (tt.same sD) .nil))))))))) (Az ⟨n1,n2⟩ ⟨d1,d2⟩ hs hk lay tl) ?_;show max 0 (max 0 (max 0 (max 0 (max 0 (max 0 (max 0 (max dg.depth (max dt.depth 0))))))))<=3;omega
 have xg:x="give":=by
  simp only[Fd,List.not_mem_nil,or_false]at hx;have no:∀{z:Str},¬decide (V.str x=V.str z)=true->x≠z:=fun h e=>h (by rw[e];exact Ey rfl);rcases hx with e|e|e|e|e|e|e
  ·exact absurd e (no hg)
  ·exact absurd e (no hc)
  ·exact absurd e (no hi)
  ·exact e
  ·exact absurd e (no hy)
  ·exact absurd e (no hl)
  ·exact absurd e (no hv)
 subst xg;refine⟨_,rfl,c,39,13,rfl,by decide,by decide,fun p1 hp1=>?_⟩;refine⟨_,rfl,_,_,rfl,rfl,_,rfl,c,40,12,rfl,by decide,by decide,fun p2 hp2=>⟨_,_,rfl,rfl,_,_,rfl,rfl,(by show(0:Int)<13;decide),?_⟩⟩;obtain⟨p3,ep3⟩:∃p3:Nat,p3=(p1+1+p2) % 13:=⟨_,rfl⟩;have ep:(((p1:Nat):Int)+1+((p2:Nat):Int)) % 13=((p3:Nat):Int):=by omega
 have hp3:p3<13:=by omega
 simp only[ep];refine⟨_,rfl,_,rfl,p1,y,rfl,hp1,_,rfl,_,rfl,p3,y,rfl,hp3,aK rfl,fun ln hln=>?_⟩;have sN:=aq.upd (o:=.tup [.str (cC y p1),.str (cC y p3)]) hln;have gN:(upd H9 ln (.tup [.str (cC y p1),.str (cC y p3)])) ln=some (.tup [.str (cC y p1),.str (cC y p3)]):=ag;generalize (upd H9 ln (.tup [.str (cC y p1),.str (cC y p3)]))=HN at sN gN ⊢;refine⟨_,rfl,_,rfl,aK rfl,fun lA hlA=>?_⟩;have sA:=aq.upd (H:=HN) (o:=.tup ([.int (k:Nat)])) hlA;have glA:(upd (HN) lA (.tup ([.int (k:Nat)]))) lA=some (.tup ([.int (k:Nat)])):=ag;generalize (upd (HN) lA (.tup ([.int (k:Nat)])))=HA at sA glA ⊢;refine⟨l8,lA,[.str "give",.int n,.int d,.ref l6],[.int (k:Nat)],rfl,rfl,SqT.of ((sN.trans sA) _ _ g9),SqT.of glA,nofun,Et rfl,nofun,fun _ lB hlB=>?_⟩;have sB:=aq.upd (H:=HA) (o:=.tup ([.str "give",.int n,.int d,.ref l6]++[.int (k:Nat)])) hlB;have glB:(upd (HA) lB (.tup ([.str "give",.int n,.int d,.ref l6]++[.int (k:Nat)]))) lB=some (.tup ([.str "give",.int n,.int d,.ref l6]++[.int (k:Nat)])):=ag;generalize (upd (HA) lB (.tup ([.str "give",.int n,.int d,.ref l6]++[.int (k:Nat)])))=HB at sB glB ⊢;refine⟨_,rfl,?_⟩;refine⟨lB,ln,_,[.str (cC y p1),.str (cC y p3)],rfl,rfl,SqT.of glB,SqT.of ((sA.trans sB) _ _ gN),nofun,Et rfl,nofun,fun _ lC hlC=>?_⟩;have sC:=aq.upd (H:=HB) (o:=.tup (([.str "give",.int n,.int d,.ref l6]++[.int (k:Nat)])++[.str (cC y p1),.str (cC y p3)])) hlC;have glC:(upd (HB) lC (.tup (([.str "give",.int n,.int d,.ref l6]++[.int (k:Nat)])++[.str (cC y p1),.str (cC y p3)]))) lC=some (.tup (([.str "give",.int n,.int d,.ref l6]++[.int (k:Nat)])++[.str (cC y p1),.str (cC y p3)])):=ag;generalize (upd (HB) lC (.tup (([.str "give",.int n,.int d,.ref l6]++[.int (k:Nat)])++[.str (cC y p1),.str (cC y p3)])))=HC at sC glC ⊢;refine⟨_,rfl,m,rfl,fun lp tp bp HP sP hP pd=>?_⟩;refine⟨aK rfl,fun lE hlE=>?_⟩;have sE:=aq.upd (H:=HP) (o:=.tup ([.ref lp])) hlE;have glE:(upd (HP) lE (.tup ([.ref lp]))) lE=some (.tup ([.ref lp])):=ag;generalize (upd (HP) lE (.tup ([.ref lp])))=HE at sE glE ⊢;refine⟨lC,lE,_,[.ref lp],rfl,rfl,SqT.of ((sP.trans sE) _ _ glC),SqT.of glE,nofun,Et rfl,nofun,fun _ lF hlF=>?_⟩;have sF:=aq.upd (H:=HE) (o:=.tup ((([.str "give",.int n,.int d,.ref l6]++[.int (k:Nat)])++[.str (cC y p1),.str (cC y p3)])++[.ref lp])) hlF;have glF:(upd (HE) lF (.tup ((([.str "give",.int n,.int d,.ref l6]++[.int (k:Nat)])++[.str (cC y p1),.str (cC y p3)])++[.ref lp]))) lF=some (.tup ((([.str "give",.int n,.int d,.ref l6]++[.int (k:Nat)])++[.str (cC y p1),.str (cC y p3)])++[.ref lp])):=ag;generalize (upd (HE) lF (.tup ((([.str "give",.int n,.int d,.ref l6]++[.int (k:Nat)])++[.str (cC y p1),.str (cC y p3)])++[.ref lp])))=HF at sF glF ⊢;refine⟨_,rfl,_,rfl,_,rfl,_,rfl,m,k,w,h,rfl,⟨hw,hw8⟩,⟨hh,hh8⟩,hk,fun lG vg vt dg dt HG sG hG tg tt zg zt tl=>?_⟩;refine⟨lF,lG,_,_,rfl,rfl,SqT.of (sG _ _ glF),SqT.of hG,nofun,Et rfl,nofun,fun _ lD hlD=>?_⟩;have sD:=aq.upd (o:=.tup (((([.str "give",.int n,.int d,.ref l6]++[.int (k:Nat)])++[.str (cC y p1),.str (cC y p3)])++[.ref lp])++[vg,vt])) hlD;refine fin lD [.int (k:Nat),.str (cC y p1),.str (cC y p3),.ref lp,vg,vt] [.int (k:Nat),.str (cC y p1),.str (cC y p3),.tuple [.int tp,.int bp],dg,dt] _ (sN.trans (sA.trans (sB.trans (sC.trans (sP.trans (sE.trans (sF.trans (sG.trans sD)))))))) ag (.cons (.int _) (.cons (eJ y hp1).1.td (.cons (eJ y hp3).1.td (.cons (.tup ((sE.trans (sF.trans (sG.trans sD))) _ _ hP) (.cons (.int _) (.cons (.int _) .nil))) (.cons (tg.same sD) (.cons (tt.same sD) .nil)))))) (yO ⟨n1,n2⟩ ⟨d1,d2⟩ hs hk (eJ y hp1).1 (eJ y hp3).1 (Dm y hp1 hp3 (by omega)) pd tl) ?_;show max 0 (max 0 (max 0 (max (max 0 (max 0 0)+1) (max dg.depth (max dt.depth 0)))))<=3;omega
def nS(K:Frag):Sp:=fun vs H Q _=>∃(r:Addr)(ds:List PyData)(p:Nat)(c:Int)(w h:Nat)(x:Str)(ls:List Lk)(l:Lk),vs=[.ref r,.int (p:Nat),.int c,.int (w:Nat),.int (h:Nat)]/\TD H (.tuple ds) (.ref r)/\dX w h (.tuple ds)=none/\ds[0]?=some (.str x)/\bE x=some ls/\1<=p/\ls[p-1]?=some l/\PyData.depthAll ds<=3/\(0<w/\w<=8)/\(0<h/\h<=8)/\∀v d H',aq H H'->TD H' d v->lX w h ds p l d->d.depth<=3->Q v H'
variable(jy:Df P w K mg base 5 "_law_bad" ["_law_row","_law_place","_law_cell","_law_wide","_law_high"] (nS K))
theorem vm:ay ["_law_row","_law_place","_law_cell","_law_wide","_law_high"] ["_law_row","_law_place","_law_cell","_law_wide","_law_high"] (ao (top 102)):=by trivial
include B aR dQ eN fb av b7 dR bV eO in
theorem vE(T:Tx K mg "_law_bad" (top 102) ["_law_row","_law_place","_law_cell","_law_wide","_law_high"]):Df P w K mg base 5 "_law_bad" ["_law_row","_law_place","_law_cell","_law_wide","_law_high"] (nS K):=by
 refine T.df vm (by rintro _ _ _ _ ⟨r,ds,p,c,w,h,x,ls,l,rfl,tR,gd,h0,hx,p1,hl,dep,⟨hw,hw8⟩,⟨hh,hh8⟩,q⟩;rfl) ?_;rintro f _ A _ s H _ Q E hr ⟨r,ds,p,c,w,h,x,ls,l,rfl,tR,gd,h0,hx,p1,hl,dep,⟨hw,hw8⟩,⟨hh,hh8⟩,q⟩;refine⟨_,(@ah _ _ _ _ _ (aS (aC ow (pv 1) ae (aA _)) (@ai _ _ _ (@aw _ _ _ _ (au aR hr (@aa _ _ _ _ _ (pv 2) (@aa _ _ _ _ _ (aj aZ ae (pv 1)) (@aa _ _ _ _ _ (aj bC ae ae) af rfl) rfl) rfl)))) aD) (@ah _ _ _ _ _ (aS (aC aV (pv 1) ae (aA _)) (@ai _ _ _ (@aw _ _ _ _ (au dQ hr (@aa _ _ _ _ _ (pv 2) (@aa _ _ _ _ _ (@aF _ _ _ _ _ _ _ aG (pv 0) ae (fun _ _=>rfl)) af rfl) rfl)))) aD) (@ah _ _ _ _ _ (aS (aC aV (@aF _ _ _ _ _ _ _ aG (pv 0) ae (fun _ _=>rfl)) aO (aA _)) (@ai _ _ _ (@aw _ _ _ _ (@aF _ _ _ _ _ _ _ bH (@bK _ _ _ _ (@aa _ _ _ _ _ (au b7 hr (@aa _ _ _ _ _ (pv 2) (@aa _ _ _ _ _ (pv 3) (@aa _ _ _ _ _ (pv 4) af rfl) rfl) rfl)) (@aa _ _ _ _ _ (au dR hr (@aa _ _ _ _ _ (pv 2) (@aa _ _ _ _ _ (@aF _ _ _ _ _ _ _ aG (pv 0) ae (fun _ _=>rfl)) af rfl) rfl)) af rfl) rfl)) (aj aZ (pv 1) ae) (fun _ _=>rfl)))) aD) (@ah _ _ _ _ _ (aS (aC aV (pv 1) ae (aA _)) (@ai _ _ _ (@aw _ _ _ _ (au aR hr (@aa _ _ _ _ _ (pv 2) (@aa _ _ _ _ _ ae (@aa _ _ _ _ _ (aj aZ (aj bN (pv 3) (pv 4)) ae) af rfl) rfl) rfl)))) aD) (bj (aS ((gg (aC hZ (@aF _ _ _ _ _ _ _ aG (pv 0) ae (fun _ _=>rfl)) (@bu _ _ _ _ _ (@aa _ _ _ _ _ aO (@aa _ _ _ _ _ aO af rfl) rfl)) (by with_unfolding_all rfl)) (e8 (aC mU (pv 1) (aj aZ (aP br (by rfl) B.len Fv (@aa _ _ _ _ _ (pv 0) af rfl)) ae) (aA _)))).pt) (@ai _ _ _ (@aw _ _ _ _ (au eN hr (@aa _ _ _ _ _ (pv 0) (@aa _ _ _ _ _ (pv 1) (@aa _ _ _ _ _ (pv 2) (@aa _ _ _ _ _ (pv 3) (@aa _ _ _ _ _ (pv 4) af rfl) rfl) rfl) rfl) rfl)))) aD) (@ah _ _ _ _ _ (aS (aC aV (@aF _ _ _ _ _ _ _ aG (pv 0) ae (fun _ _=>rfl)) aO (aA _)) (@ai _ _ _ (@aw _ _ _ _ (au fb hr (@aa _ _ _ _ _ (pv 0) (@aa _ _ _ _ _ (pv 1) (@aa _ _ _ _ _ (pv 2) (@aa _ _ _ _ _ (pv 3) (@aa _ _ _ _ _ (pv 4) af rfl) rfl) rfl) rfl) rfl)))) aD) (@ah _ _ _ _ _ (aS (aC aV (@aF _ _ _ _ _ _ _ aG (pv 0) ae (fun _ _=>rfl)) aO (aA _)) (@ai _ _ _ (@aw _ _ _ _ (@aF _ _ _ _ _ _ _ bH (@bK _ _ _ _ (@aa _ _ _ _ _ (au bV hr (@aa _ _ _ _ _ (pv 2) (@aa _ _ _ _ _ aO af rfl) rfl)) (@aa _ _ _ _ _ (au bV hr (@aa _ _ _ _ _ (pv 2) (@aa _ _ _ _ _ (@aF _ _ _ _ _ _ _ aG (pv 0) ae (fun _ _=>rfl)) af rfl) rfl)) (@aa _ _ _ _ _ (au eO hr (@aa _ _ _ _ _ (pv 2) af rfl)) af rfl) rfl) rfl)) (aj aZ (pv 1) ae) (fun _ _=>rfl)))) aD) (@ah _ _ _ _ _ (aS ((gg (aC aV (@aF _ _ _ _ _ _ _ aG (pv 0) ae (fun _ _=>rfl)) aO (aA _)) (e8 (aC aV (pv 1) ae (aA _)))).pt) (@ai _ _ _ (@aw _ _ _ _ (@aF _ _ _ _ _ _ _ bH (@eU _ _ _ _ (@ak _ _ _ _ _ (aW (by decide+kernel) (by decide+kernel)) (@ak _ _ _ _ _ (aW (by decide+kernel) (by decide+kernel)) (@ak _ _ _ _ _ (aW (by decide+kernel) (by decide+kernel)) (@ak _ _ _ _ _ (aW (by decide+kernel) (by decide+kernel)) (@ak _ _ _ _ _ j7 (@ak _ _ _ _ _ aQ (@ak _ _ _ _ _ (@aJ _ _ _ _ _ (@ak _ _ _ _ _ (aW (by decide+kernel) (by decide+kernel)) aE rfl) (Et rfl)) (@ak _ _ _ _ _ (@eU _ _ _ _ (@ak _ _ _ _ _ (aW (by decide+kernel) (by decide+kernel)) aE rfl) (Et rfl)) (@ak _ _ _ _ _ uu aE rfl) rfl) rfl) rfl) rfl) rfl) rfl) rfl) rfl) (Et rfl)) (au av hr (@aa _ _ _ _ _ (pv 2) (@aa _ _ _ _ _ ae (@aa _ _ _ _ _ ae af rfl) rfl) rfl)) (fun _ _=>rfl)))) aD) (@ah _ _ _ _ _ (aS (aC aV (@aF _ _ _ _ _ _ _ aG (pv 0) ae (fun _ _=>rfl)) aO (aA _)) (@ai _ _ _ (@aw _ _ _ _ (au aR hr (@aa _ _ _ _ _ (pv 2) (@aa _ _ _ _ _ ae (@aa _ _ _ _ _ ae af rfl) rfl) rfl)))) aD) (bj (aS ((gg (aC aV (au av hr (@aa _ _ _ _ _ (pv 2) (@aa _ _ _ _ _ ae (@aa _ _ _ _ _ ae af rfl) rfl) rfl)) ae (aA _)) (e8 ((iJ (aC aV (@aF _ _ _ _ _ _ _ aG (pv 0) ae (fun _ _=>rfl)) aO (aA _)) (ip (aC aV (pv 1) ae (aA _)))).pt))).pt) (@ai _ _ _ (@aw _ _ _ _ (@aF _ _ _ _ _ _ _ aG (pv 0) (aj aZ (pv 1) ae) (fun _ _=>rfl)))) aD) (@ai _ _ _ (@aw _ _ _ _ (au aR hr (@aa _ _ _ _ _ (pv 2) (@aa _ _ _ _ _ (aj aZ ae (cJ jz (by rfl) B.int boot_int (@aa _ _ _ _ _ (ba aV (@aF _ _ _ _ _ _ _ aG (pv 0) ae (fun _ _=>rfl)) aO (aA _)) af rfl))) (@aa _ _ _ _ _ (@aF _ _ _ _ _ _ _ bH (@bK _ _ _ _ (@aa _ _ _ _ _ (aj bC ae ae) (@aa _ _ _ _ _ (aj aZ (aj bN (pv 3) (pv 4)) ae) af rfl) rfl)) (cJ jz (by rfl) B.int boot_int (@aa _ _ _ _ _ (ba aV (@aF _ _ _ _ _ _ _ aG (pv 0) ae (fun _ _=>rfl)) aO (aA _)) af rfl)) (fun _ _=>rfl)) af rfl) rfl) rfl)))))))))))))),?_⟩;obtain⟨r',us,er,hr,zr⟩:=tR.tupE;cases er;have hwh:w*h<=64:=Fw hw8 hh8;have hwp:0<w*h:=Nat.mul_pos hw hh;have e1:((w:Int)*(h:Int))=((w*h:Nat):Int):=by simp
 have h9:(10:Int)^(9:Int).toNat=1000000000:=by decide+kernel
 obtain⟨lds,all⟩:=uC gd h0 hx;obtain⟨b0,b1,b2,b3,b4,b5⟩:=qS hx;have lu:=zr.len;have pl:p-1<ls.length:=(ED.mp hl).1;obtain⟨u0,hu0,t0⟩:=zr.at h0;cases t0;have at0:atI us 0=some (.str x):=aB (j:=0) hu0;have yes:∀{j:Nat},decide (V.int ((p:Nat):Int)=V.int ((j:Nat):Int))=true->p=j:=fun z=>by have:=V.int.inj (EA z);omega
 have no:∀{j:Nat},¬decide (V.int ((p:Nat):Int)=V.int ((j:Nat):Int))=true->p≠j:=fun z e=>z (by rw[e];exact Ey rfl);have nx:∀{y:Str},¬decide (V.str x=V.str y)=true->x≠y:=fun z e=>z (by rw[e];exact Ey rfl);refine⟨_,rfl,_,_,rfl,rfl,_,rfl,?_⟩;refine aT (fun h1=>?_) (fun h1=>?_)
 ·have p3:((p:Nat):Int)<3:=EA h1;refine⟨_,rfl,_,rfl,_,_,rfl,rfl,_,_,rfl,rfl,⟨by decide,by decide,by decide⟩,c,_,_,rfl,(by rw[h9];omega),fun v d H' s' td e dn dp=>q v d H' s' td ?_ (by omega)⟩;rw[h9]at e;rcases (show p=1\/p=2 by omega)with ep|ep
  ·subst ep;cases (b0.symm.trans hl);intro ds' _ e';show wi 1 1000000000 (thg ds' 1)=false;rw[e'];exact e
  ·subst ep;cases (b1.symm.trans hl);intro ds' _ e';show wi 0 1000000000 (thg ds' 2)=false;rw[e'];exact e
 have p3:3<=p:=by have:¬((p:Nat):Int)<3:=fun z=>h1 (Ey z);omega
 refine⟨_,rfl,rfl,_,rfl,?_⟩;refine aT (fun h2=>?_) (fun n3=>?_)
 ·cases yes (j:=3) h2;cases (b2.symm.trans hl);have s3:jR (thg ds 3)=true:=all 2 .sgn b2;obtain⟨ds3,e3⟩:=Av s3;have h3:=fA (ds:=ds) (i:=3) (by omega);rw[e3]at h3 s3;obtain⟨u3,hu3,t3⟩:=zr.at h3;obtain⟨l3,vs3,rfl,k3,z3⟩:=t3.tupE;refine⟨_,rfl,_,rfl,r,us,_,_,rfl,rfl,SqT.of hr,aB (j:=3) hu3,c,l3,ds3,rfl,t3,s3,Aw s3,fun v d H' s' td e dp=>q v d H' s' td (fun ds' _ e'=>?_) (by omega)⟩;show jR (thg ds' 3)=false;rw[e'];exact e
 have p4:4<=p:=by have:=no (j:=3) n3;omega
 refine⟨_,rfl,r,us,_,_,rfl,rfl,SqT.of hr,at0,rfl,_,rfl,?_⟩;refine aT (fun h2=>?_) (fun h2=>?_)
 ·cases (V.str.inj (EA h2):x="grant");cases (ur.symm.trans hx);have s5:jB (thg ds 5)=true:=all 4 .shr rfl;obtain⟨ds5,e5⟩:=Au s5;have h5:=fA (ds:=ds) (i:=5) (by rw[lds];decide);rw[e5]at h5 s5;have dp5:PyData.depthAll ds5<=2:=by
   have a:(PyData.tuple ds5).depth<=3:=EX (mF h5) dep;have:PyData.depthAll ds5+1<=3:=a;omega
  obtain⟨u5,hu5,t5⟩:=zr.at h5;obtain⟨l5,vs5,rfl,k5,z5⟩:=t5.tupE;refine⟨_,rfl,_,rfl,_,rfl,c,w,h,rfl,⟨hw,hw8⟩,⟨hh,hh8⟩,fun v1 d1 H1 s1 t1 f1 g1=>?_⟩;refine⟨_,rfl,_,rfl,r,us,_,_,rfl,rfl,SqT.of (s1 _ _ hr),aB (j:=5) hu5,c,l5,ds5,rfl,t5.same s1,s5,dp5,fun v2 d2 H2 s2 t2 f2 g2=>?_⟩;refine⟨aK rfl,fun lA hlA=>?_⟩;have sA:=aq.upd (o:=.lst [v1,v2]) hlA;have pl':p-1<5:=pl;rcases (show p=4\/p=5 by omega)with ep|ep
  ·subst ep;cases (show some Lk.pc=some l from hl);refine⟨_,rfl,_,_,rfl,rfl,lA,_,_,_,rfl,rfl,SqL.of ag,rfl,q v1 d1 _ (s1.trans (s2.trans sA)) (t1.same (s2.trans sA)) (fun ds' _ e'=>?_) (by omega)⟩;show jh w h (thg ds' 4)=false;rw[e'];exact f1
  ·subst ep;cases (show some Lk.shr=some l from hl);refine⟨_,rfl,_,_,rfl,rfl,lA,_,_,_,rfl,rfl,SqL.of ag,rfl,q v2 d2 _ (s1.trans (s2.trans sA)) (t2.same sA) (fun ds' _ e'=>?_) g2⟩;show jB (thg ds' 5)=false;rw[e'];exact f2
 have ng:x≠"grant":=nx h2;have b3:=b3 ng;obtain⟨k,e4,hk⟩:=zV (all 3 .cell b3);have h4:=fA (ds:=ds) (i:=4) (by omega);rw[show thg ds 4=.int (k:Nat)from e4]at h4;refine⟨_,rfl,rfl,_,rfl,?_⟩;refine aT (fun h2=>?_) (fun n4=>?_)
 ·cases yes (j:=4) h2;cases (b3.symm.trans hl);refine⟨_,rfl,_,rfl,_,rfl,_,_,rfl,rfl,.inl ⟨by omega,by omega⟩,_,_,rfl,rfl,c,0,_,rfl,(by rw[e1];omega),fun v d H' s' td e dn dp=>q v d H' s' td (fun ds' _ e'=>?_) (by omega)⟩;show wi 0 ((w:Int)*h-1) (thg ds' 4)=false;rw[e'];exact e
 have p5:5<=p:=by have:=no (j:=4) n4;omega
 refine⟨fun σ' H'=>σ'=[some (.ref r),some (.int (p:Nat)),some (.int c),some (.int (w:Nat)),some (.int (h:Nat))]/\aq H H'/\(x="give"\/x="lay"->p+3<=ds.length),?_,?_⟩
 ·refine dW ?_;intro kD1;refine⟨_,rfl,r,us,_,_,rfl,rfl,SqT.of hr,at0,aK rfl,fun t ht=>⟨t,_,rfl,.inr (SqT.of ag),rfl,rfl,_,rfl,?_⟩⟩;have s1:=aq.upd (o:=.tup [.str "give",.str "lay"]) ht;have ei:inV (.str x) [.str "give",.str "lay"]=decide (x∈(["give","lay"]:List Str)):=oZ x ["give","lay"];refine aT (fun g1=>?_) (fun g1=>bP ⟨rfl,s1,fun z=>absurd (show inV (.str x) [.str "give",.str "lay"]=true by rw[ei];exact Ey (by rcases z with z|z<;>simp[z])) g1⟩);have gl:x="give"\/x="lay":=by
   have:inV (.str x) [.str "give",.str "lay"]=true:=g1;rw[ei,Ez]at this;simpa using this
  generalize (upd H t (.tup [.str "give",.str "lay"]))=H1 at s1 ⊢;refine⟨_,rfl,_,rfl,r,us,rfl,.inr (SqT.of (s1 _ _ hr)),_,_,rfl,rfl,_,_,rfl,rfl,_,rfl,?_⟩;refine aT (fun g2=>?_) (fun g2=>⟨rfl,s1,fun _=>?_⟩)
  ·have pg:((us.length:Nat):Int)-3<((p:Nat):Int):=EA g2;refine⟨_,rfl,_,rfl,_,rfl,_,rfl,_,rfl,r,ds,p,c,w,h,k,rfl,tR.same s1,h4,hk,⟨hw,hw8⟩,⟨hh,hh8⟩,fun v d H' s' td f1 f2 dp=>q v d H' (s1.trans s') td ?_ (by omega)⟩;have grd:∀{j:Nat},5<=j->(wi 0 ((2^(w*h)-1:Nat):Int) d&&(isZ d||o8 d (.int (k:Nat))))=false->lX w h ds j .grd d:=fun {j} hj f ds' a b=>by
    show(wi 0 ((2^(w*h)-1:Nat):Int) (thg ds' j)&&(isZ (thg ds' j)||o8 (thg ds' j) (thg ds' 4)))=false;rw[b,a 4 (by omega),jQ h4];exact f
   have trs:∀{j:Nat},trD d=false->lX w h ds j .trust d:=fun {j} f ds' a b=>by show trD (thg ds' j)=false;rw[b];exact f
   rcases gl with z|z
   ·subst z;cases (rF.symm.trans hx);have ld:ds.length=10:=lds;have pl':p-1<9:=pl;rcases (show p=8\/p=9 by omega)with ep|ep
    ·subst ep;cases (show some Lk.grd=some l from hl);exact grd (by decide) (f2 (by omega))
    ·subst ep;cases (show some Lk.trust=some l from hl);exact trs (f1 (by omega))
   ·subst z;cases (vO.symm.trans hx);have ld:ds.length=13:=lds;have pl':p-1<12:=pl;rcases (show p=11\/p=12 by omega)with ep|ep
    ·subst ep;cases (show some Lk.grd=some l from hl);exact grd (by decide) (f2 (by omega))
    ·subst ep;cases (show some Lk.trust=some l from hl);exact trs (f1 (by omega))
  ·have pg:¬((us.length:Nat):Int)-3<((p:Nat):Int):=fun z=>g2 (Ey z);omega
 rintro σ' H1 ⟨rfl,s1,p13⟩;have hr1:=s1 _ _ hr;refine⟨_,rfl,r,us,_,_,rfl,rfl,SqT.of hr1,at0,rfl,_,rfl,?_⟩;refine aT (fun g1=>?_) (fun g1=>?_)
 ·cases (V.str.inj (EA g1):x="lay");cases (vO.symm.trans hx);have ld:ds.length=13:=lds;obtain⟨ks,e5,_⟩:=A6 (all 4 .bkind rfl);have h5:=fA (ds:=ds) (i:=5) (by omega);rw[show thg ds 5=.str ks from e5]at h5;have p10:=p13 (.inr rfl);refine⟨_,rfl,_,rfl,_,rfl,_,rfl,_,rfl,r,ds,p,c,w,h,ks,l,rfl,tR.same s1,h5,p5,?_,⟨hw,hw8⟩,⟨hh,hh8⟩,fun v d H' s' td f dp=>q v d H' (s1.trans s') td f (by omega)⟩;rcases (show p=5\/p=6\/p=7\/p=8\/p=9\/p=10 by omega)with e|e|e|e|e|e<;>(subst e;exact hl)
 refine⟨_,rfl,r,us,_,_,rfl,rfl,SqT.of hr1,at0,rfl,_,rfl,?_⟩;refine aT (fun g2=>?_) (fun g2=>?_)
 ·cases (V.str.inj (EA g2):x="give");cases (rF.symm.trans hx);have ld:ds.length=10:=lds;have p7:=p13 (.inl rfl);obtain⟨y,e5⟩:=Cc (all 4 .name rfl);have h5:=fA (ds:=ds) (i:=5) (by omega);rw[show thg ds 5=.str y from e5]at h5;obtain⟨u5,hu5,t5⟩:=zr.at h5;cases t5 with
  |str _ y1 y2=>
  refine⟨_,rfl,c,"",rfl,by decide+kernel,by decide+kernel,fun v2 d2 H2 s2 t2 f2 g2=>?_⟩;refine⟨_,rfl,_,rfl,r,us,_,_,rfl,rfl,SqT.of (s2 _ _ hr1),aB (j:=5) hu5,c,y,rfl,y1,y2,fun v3 d3 H3 s3 t3 f3 g3=>?_⟩;refine⟨_,rfl,c,rfl,fun v4 d4 H4 s4 t4 f4 g4=>?_⟩;refine⟨aK rfl,fun lA hlA=>?_⟩;have sA:=aq.upd (o:=.lst [v2,v3,v4]) hlA;rcases (show p=5\/p=6\/p=7 by omega)with ep|ep|ep
  ·subst ep;cases (show some Lk.name=some l from hl);refine⟨_,rfl,_,_,rfl,rfl,lA,_,_,_,rfl,rfl,SqL.of ag,rfl,q v2 d2 _ (s1.trans (s2.trans (s3.trans (s4.trans sA)))) (t2.same (s3.trans (s4.trans sA))) (fun ds' _ e'=>?_) (by omega)⟩;show nmD (thg ds' 5)=false;rw[e'];rcases f2 with f|f
   ·rw[f];decide+kernel
   ·exact f
  ·subst ep;cases (show some Lk.oname=some l from hl);refine⟨_,rfl,_,_,rfl,rfl,lA,_,_,_,rfl,rfl,SqL.of ag,rfl,q v3 d3 _ (s1.trans (s2.trans (s3.trans (s4.trans sA)))) (t3.same (s4.trans sA)) (fun ds' a e'=>?_) (by omega)⟩;show(nmD (thg ds' 6)&& !PyData.eqv (thg ds' 6) (thg ds' 5))=false;rw[e',a 5 (by decide),jQ h5];rcases f3 with f|f
   ·rw[f];show(_&& !decide (y=y))=false;rw[Ey rfl];exact Fi _
   ·rw[f];rfl
  ·subst ep;cases (show some Lk.part=some l from hl);refine⟨_,rfl,_,_,rfl,rfl,lA,_,_,_,rfl,rfl,SqL.of ag,rfl,q v4 d4 _ (s1.trans (s2.trans (s3.trans (s4.trans sA)))) (t4.same sA) (fun ds' _ e'=>?_) (by omega)⟩;show eD (thg ds' 7)=false;rw[e'];exact f4
 refine⟨_,rfl,r,us,_,_,rfl,rfl,SqT.of hr1,at0,rfl,_,rfl,?_⟩;refine aT (fun g3=>?_) (fun g3=>?_)
 ·cases (V.str.inj (EA g3):x="cut");cases (zC.symm.trans hx);have pl':p-1<6:=pl;refine⟨_,rfl,rfl,_,rfl,?_⟩;refine aT (fun h2=>?_) (fun n5=>?_)
  ·cases yes (j:=5) h2;cases (show some Lk.axis=some l from hl);refine fun v2 H2 s2 t2=>?_;obtain⟨l2,vs2,rfl,k2,z2⟩:=t2.lstE;refine⟨_,rfl,c,49,9,rfl,by decide,by decide,fun k hk=>?_⟩;obtain⟨v,d,hv,tv,pd⟩:=z2.pickB (fun d=> !inS ["x","y"] d&&decide (d.depth<=1)) hk (by decide+kernel);obtain⟨a1,a2⟩:=vJ pd;refine⟨l2,_,_,_,rfl,rfl,SqL.of k2,aB hv,q v d _ (s1.trans s2) tv (fun ds' _ e=>?_) (by omega)⟩;show inS ["x","y"] (thg ds' 5)=false;rw[e];exact a1
  ·refine⟨_,rfl,r,us,_,_,rfl,rfl,SqT.of hr1,at0,rfl,_,rfl,?_⟩;refine aT (fun _=>?_) (fun z=>absurd g3 z);have p6:p=6:=(by have:=no (j:=5) n5;omega);subst p6;cases (show some Lk.line=some l from hl);refine⟨_,rfl,c,0,8,rfl,by decide,fun v d H' s' td e dn dp=>q v d H' (s1.trans s') td (fun ds' _ e'=>?_) (by omega)⟩;show wi 0 8 (thg ds' 6)=false;rw[e'];exact e
 refine bP ⟨_,rfl,r,us,_,_,rfl,rfl,SqT.of hr1,at0,rfl,_,rfl,?_⟩;refine aT (fun z=>absurd z g3) (fun _=>?_);have kinds:(x="join"/\ls=[.num,.date,.sgn,.cell,.ocell])\/(x="lift"/\ls=[.num,.date,.sgn,.cell,.num])\/(x="waive"/\ls=[.num,.date,.sgn,.cell,.num,.onum]):=by
  rcases uo hx with z|z|z|z|z|z|z
  ·exact absurd z.1 ng
  ·exact absurd z.1 (nx g3)
  ·exact .inl z
  ·exact absurd z.1 (nx g2)
  ·exact absurd z.1 (nx g1)
  ·exact .inr (.inl z)
  ·exact .inr (.inr z)
 refine⟨fun σ' H'=>σ'=[some (.ref r),some (.int (p:Nat)),some (.int c),some (.int (w:Nat)),some (.int (h:Nat))]/\aq H H',?_,?_⟩
 ·refine dW ?_;intro kD2;refine⟨_,rfl,c,50,3,rfl,by decide,by decide,fun k2 hk2=>⟨rfl,_,rfl,?_⟩⟩;refine aT (fun _=>?_) (fun _=>bP ⟨rfl,s1⟩);have h5:=fA (ds:=ds) (i:=p-1) (by omega);obtain⟨u5,hu5,t5⟩:=zr.at h5;have d5:(thg ds (p-1)).depth<=3:=EX (mF h5) dep;refine⟨_,rfl,r,us,_,_,rfl,rfl,SqT.of hr1,at0,rfl,_,rfl,?_⟩;refine aT (fun hj=>?_) (fun hj=>?_)
  ·have ej:x="join":=V.str.inj (EA hj);refine fL ⟨_,rfl,_,rfl,_,_,rfl,rfl,r,us,_,_,rfl,rfl,SqT.of hr1,jt hu5 p1,q _ _ _ s1 (t5.same s1) (fun ds' a e'=>?_) d5⟩;rcases kinds with z|z|z
   ·rw[z.2]at hl;have pl':p-1<5:=(by rw[z.2]at pl;exact pl);have p5':p=5:=(by omega);subst p5';cases (show some Lk.ocell=some l from hl);show(wi 0 ((w:Int)*h-1) (thg ds' 5)&& !PyData.eqv (thg ds' 5) (thg ds' 4))=false;rw[e',a 4 (by decide),show thg ds (5-1)=thg ds 4 from rfl,jQ h4];show(_&& !decide (((k:Nat):Int)=((k:Nat):Int)))=false;rw[Ey rfl];exact Fi _
   ·exact absurd (ej.symm.trans z.1) (by decide+kernel)
   ·exact absurd (ej.symm.trans z.1) (by decide+kernel)
  ·refine⟨_,rfl,rfl,_,rfl,?_⟩;refine aT (fun h6=>?_) (fun _=>⟨rfl,s1⟩);have p6:=yes (j:=6) h6;refine⟨_,rfl,_,rfl,_,_,rfl,rfl,r,us,_,_,rfl,rfl,SqT.of hr1,jt hu5 p1,q _ _ _ s1 (t5.same s1) (fun ds' a e'=>?_) d5⟩;subst p6;rcases kinds with z|z|z
   ·exact absurd z.1 (nx hj)
   ·rw[z.2]at pl;exact absurd pl (by decide)
   ·rw[z.2]at hl;cases (show some Lk.onum=some l from hl);have n5:=all 4 .num (by rw[z.2];rfl);obtain⟨b,eb,_⟩:=qv (show wi 1 1000000000 (thg ds 5)=true from n5);show(wi 1 1000000000 (thg ds' 6)&& !PyData.eqv (thg ds' 6) (thg ds' 5))=false;rw[e',a 5 (by decide),show thg ds (6-1)=thg ds 5 from rfl,eb];show(_&& !decide (b=b))=false;rw[Ey rfl];exact Fi _
 rintro σ' H2 ⟨rfl,s2⟩;have hr2:=s2 _ _ hr;refine⟨_,rfl,_,rfl,r,us,_,_,rfl,rfl,SqT.of hr2,at0,rfl,.inr ⟨_,rfl,_,_,rfl,rfl,?_⟩⟩;refine⟨_,_,rfl,rfl,⟨by decide,by decide,by decide⟩,_,rfl,_,rfl,_,_,rfl,rfl,.inl ⟨by omega,by omega⟩,_,_,rfl,rfl,aK rfl,fun lA hlA=>?_⟩;have sA:=aq.upd (o:=.lst [.int (10^Int.toNat 9),.int (((w:Nat):Int)*((h:Nat):Int)-1)]) hlA;refine⟨_,rfl,r,us,_,_,rfl,rfl,SqT.of (sA _ _ hr2),at0,rfl,.inr ⟨_,rfl,?_⟩⟩;rcases kinds with z|z|z
 ·have ej:decide (V.str x=V.str "join")=true:=by rw[z.1];exact Ey rfl
  rw[z.2]at hl;have pl':p-1<5:=by rw[z.2]at pl;exact pl
  have p5':p=5:=by omega
  subst p5';cases (show some Lk.ocell=some l from hl);simp only[ej];refine⟨lA,_,_,_,rfl,rfl,SqL.of ag,rfl,c,0,((w:Nat):Int)*((h:Nat):Int)-1,rfl,(by rw[e1];omega),fun v d H' s' td e dn dp=>q v d H' (s2.trans (sA.trans s')) td (fun ds' _ e'=>?_) (by omega)⟩;show(wi 0 ((w:Int)*h-1) (thg ds' 5)&&_)=false;rw[e',e];rfl
 ·have ej:decide (V.str x=V.str "join")=false:=by rw[z.1];decide+kernel
  rw[z.2]at hl;have pl':p-1<5:=by rw[z.2]at pl;exact pl
  have p5':p=5:=by omega
  subst p5';cases (show some Lk.num=some l from hl);simp only[ej];refine⟨lA,_,_,_,rfl,rfl,SqL.of ag,rfl,c,1,10^Int.toNat 9,rfl,(by decide),fun v d H' s' td e dn dp=>q v d H' (s2.trans (sA.trans s')) td (fun ds' _ e'=>?_) (by omega)⟩;rw[h9]at e;show wi 1 1000000000 (thg ds' 5)=false;rw[e',e]
 ·have ej:decide (V.str x=V.str "join")=false:=by rw[z.1];decide+kernel
  rw[z.2]at hl;have pl':p-1<6:=by rw[z.2]at pl;exact pl
  simp only[ej];refine⟨lA,_,_,_,rfl,rfl,SqL.of ag,rfl,c,1,10^Int.toNat 9,rfl,(by decide),fun v d H' s' td e dn dp=>q v d H' (s2.trans (sA.trans s')) td ?_ (by omega)⟩;rw[h9]at e;rcases (show p=5\/p=6 by omega)with ep|ep
  ·subst ep;cases (show some Lk.num=some l from hl);intro ds' _ e';show wi 1 1000000000 (thg ds' 5)=false;rw[e',e]
  ·subst ep;cases (show some Lk.onum=some l from hl);intro ds' _ e';show(wi 1 1000000000 (thg ds' 6)&&_)=false;rw[e',e];rfl
def pU(K:Frag):Sp:=fun vs H Q _=>∃(a:Addr)(w h c:Nat),vs=[.ref a,.int c]/\SqT K H a [.int w,.int h]/\(0<w/\w<=8/\h<=8)/\c<2^(w*h)/\∀ps H',gv w h c ps->aq H H'->Q (.bl (decide (ps.length=1))) H'
variable(lK:Df P w K mg base 6 "is_one" ["floor","cells"] (pU K))
theorem xI:ay ["floor","cells"] ["floor","cells"] (ao (top 28)):=by trivial
include B lH in
theorem xZ(T:Tx K mg "is_one" (top 28) ["floor","cells"]):Df P w K mg base 6 "is_one" ["floor","cells"] (pU K):=by
 refine T.df xI (by rintro _ _ _ _ ⟨a,w,h,c,rfl,hT,⟨hw,hw8,hh8⟩,hc,q⟩;rfl) ?_;rintro f _ A _ s H _ Q E hr ⟨a,w,h,c,rfl,hT,⟨hw,hw8,hh8⟩,hc,q⟩;refine⟨_,(ai (aw (ba aV (aP br (by rfl) B.len Fv (aa (au lH hr (aa (pv 0) (aa (pv 1) af))) af)) ae (aA _)))),?_⟩;refine⟨_,rfl,_,rfl,a,w,h,c,rfl,hT,⟨hw,hw8,hh8⟩,hc,fun l ps H2 n1 s1 hl hp=>?_⟩;refine⟨l,_,rfl,.inl (SqL.of hl),rfl,?_⟩;have q':=q ps H2 hp s1;have e:decide (V.int (((ps.map fun k:Nat=>V.int (k:Int)).length:Nat):Int)=V.int 1)=decide (ps.length=1):=by
  rw[Ew,Fu,Ez,Ez];constructor
  ·intro z;have:=V.int.inj z;omega
  ·intro z;rw[z];rfl
 rw[e];exact q'
def iV(K:Frag):Sp:=spG K .shr
variable(fg:Df P w K mg base 6 "good_shares" ["floor","row","place"] (iV K))
theorem ja:ay ["floor","row","place","shares"] ["floor","row","place"] (ao (top 56)):=by trivial
include B dG lq fQ cS ig wu in
theorem oH(T:Tx K mg "good_shares" (top 56) ["floor","row","place"]):Df P w K mg base 6 "good_shares" ["floor","row","place"] (iV K):=by
 obtain⟨pu_ALL,gu_ALL,tu_ALL⟩:=wu;refine T.df ja (by rintro _ _ _ _ ⟨fl,r,w,h,p,ds,rfl,hF,⟨hw,hw8⟩,⟨hh,hh8⟩,rr,⟨p1,pl⟩,pre,q⟩;rfl) ?_;rintro f _ A _ s H _ Q E hr ⟨fl,r,w,h,p,ds,rfl,hF,⟨hw,hw8⟩,⟨hh,hh8⟩,rr,⟨p1,pl⟩,pre,q⟩;have hu:=hr.units;refine bq ?_;intro kX;refine ar 3 (ai (aw (cy (au dG hr (aa (cV ["pair"] [] (jr _ []) rfl (by rfl) rfl (by trivial) (by trivial) (bT (by rfl)) (fC (by rfl)) mN mN (dZ (by decide)) (qT (pv 3)) (fun _ _ _ _=>bJ (i:=0) (show(["pair"]:List Str).Nodup by trivial) rfl (Or.inl rfl) (Or.inr rfl)) (fun _ _ _ _=>dE) (fun _ _ _ _=>(aF (wZ (K:=K) rfl) (pv 0) ae (fun _ _=>rfl)))) af)) (bQ (ba (mf hu) (au lq hr (aa (cV ["pair"] [] (jr _ []) rfl (by rfl) rfl (by trivial) (by trivial) (bT (by rfl)) (fC (by rfl)) mN mN (dZ (by decide)) (qT (pv 3)) (fun _ _ _ _=>bJ (i:=0) (show(["pair"]:List Str).Nodup by trivial) rfl (Or.inl rfl) (Or.inr rfl)) (fun _ _ _ _=>dE) (fun _ _ _ _=>(aF (wZ (K:=K) rfl) (pv 0) ae (fun _ _=>rfl)))) af)) (bw (v:=.ref pu_ALL) (by rfl) gu_ALL rfl) (aA _)))))) ?_;intro kR3 pR3;refine ar 2 (ah (aS (cw (cn (aP (jA rfl) (by rfl) ig (by trivial) (aa (cV ["thing"] [] (jr _ []) rfl (by rfl) rfl (by trivial) (by trivial) (bT (by rfl)) (fC (by rfl)) mN mN (dZ (by decide)) (qT (pv 3)) (fun _ _ _ _=>bJ (i:=0) (show(["thing"]:List Str).Nodup by trivial) rfl (Or.inl rfl) (Or.inr rfl)) (fun _ _ _ _=>dE) (fun _ _ _ _=>(au fQ hr (aa (pv 0) af)))) af)))) (ai (aw eI)) aD) pR3) ?_;intro kR2 pR2;refine ar 1 (ah (aS ((iJ (cw (cn (aP cL (by rfl) B.isinstance Fn (aa (pv 3) (aa (dh (x:="tuple") (v:=.ty "tuple") (by rfl) B.tuple boot_tuple rfl) af))))) (ip (cw (yU mT mT ae (aP br (by rfl) B.len Fv (aa (pv 3) af)) (bw (v:=.int 12) (by rfl) cS.choose_spec ⟨_,rfl⟩))))).pt) (ai (aw eI)) aD) pR2) ?_;intro kR1 pR1;refine⟨_,(ah (az (i:=3) ja.nd rfl (by trivial) (aF aG (pv 1) (pv 2) (fun _ _=>rfl))) pR1),?_⟩;obtain⟨vs,v,hr1,ev,td,dep⟩:=rr.at pl;refine⟨_,rfl,_,rfl,r,_,_,_,rfl,rfl,SqT.of hr1,aB ev,?_⟩;have e:lkB w h ds p .shr=jB (thg ds p):=rfl;rw[e]at q;generalize thg ds p=d at td dep q;refine⟨_,rfl,_,_,_,_,rfl,td.ty,A2 K d,_,rfl,?_⟩;cases td with
 | @tup b us es hb z=>
  have lz:=z.len;have e2:jB (.tuple es)=(decide (1<=es.length)&&decide (es.length<=12)&&(es.all fv&&(rise (es.map hnm)&&decide (sumF (es.map hpt)=(1,1))))):=rfl;rw[e2]at q;refine bP ⟨_,rfl,b,us,rfl,.inr (SqT.of hb),_,_,rfl,rfl,_,rfl,?_⟩;refine aT (fun y1=>?_) (fun y1=>?_)
  rotate_left
  ·have y1':¬(1:Int)<=(us.length:Int):=fun c=>y1 (Ey c);rw[EI (show ¬1<=es.length by omega),EO,EO]at q
   first|exact⟨_,rfl,fL (q _ (aq.refl _))⟩|exact fL (q _ (aq.refl _))
  have y1':(1:Int)<=(us.length:Int):=EA y1;rw[Ey (show 1<=es.length by omega),E1]at q;refine⟨_,_,rfl,rfl,_,rfl,?_⟩;refine aT (fun y2=>?_) (fun y2=>?_)
  ·have y2':¬(us.length:Int)<=12:=fun c=>by rw[Ey c]at y2;cases y2
   rw[EI (show ¬es.length<=12 by omega),EO]at q;exact q _ (aq.refl _)
  have y2':(us.length:Int)<=12:=by refine Classical.byContradiction fun c=>y2 ?_;rw[EI c];rfl
  rw[Ey (show es.length<=12 by omega),E1]at q;refine⟨_,rfl,b,rfl,⟨_,SqT.of hb⟩,fun D hD=>?_⟩;have deps:∀x∈es,x.depth<=4:=fun x hx=>by obtain⟨j,hj⟩:=List.getElem?_of_mem hx;have a1:=mF hj;have a2:PyData.depthAll es+1<=4:=dep;omega
  refine xj (K:=K) (a:=b) (xs:=us) (fun i acc H6=>aq H H6/\H6 D=some (.lst acc)/\acc=((es.take i).map fv).map V.bl) ⟨aq.upd hD,ag,rfl⟩ (fun i acc H6 _ z=>SqT.of (z.1 _ _ hb)) ?_ ?_
  ·rintro i v acc H6 hi ⟨s6,h6,rfl⟩;refine iL ?_;intro kq1 kr1;obtain⟨x,hx,tx⟩:=z.of hi;refine⟨_,rfl,v,x,rfl,tx.same s6,deps x (EY hx),fun H7 s7=>?_⟩;have il:=(ED.mp hi).1;refine⟨s7 _ _ h6,aM (by rw[Ew,Ew,E9];omega),fun b5 o5 e5=>?_,ag,?_⟩
   ·rw[aN (fun z=>by rw[z,hD]at e5;cases e5)];exact s7 _ _ (s6 _ _ e5)
   ·rw[FD,hx,FN,EK,EK];rfl
  rintro acc H6 ⟨s6,h6,rfl⟩;rw[lz,FI]at h6;refine⟨D,es.map fv,rfl,.inl h6,_,rfl,?_⟩;have ea:(es.map fv).all id=es.all fv:=by rw[List.all_map];rfl
  rw[ea];cases ya:es.all fv with
  |false=>rw[ya,EO]at q;exact fL (q _ s6)
  |true=>
  rw[ya,E1]at q;refine bP ?_;have ho:=uA (K:=K) z ya;refine⟨_,rfl,b,rfl,⟨_,SqT.of (s6 _ _ hb)⟩,fun D2 hD2=>?_⟩;refine xj (K:=K) (a:=b) (xs:=us) (fun i acc H8=>aq H6 H8/\H8 D2=some (.lst acc)/\acc=((es.take i).map hnm).map V.str) ⟨aq.upd hD2,ag,rfl⟩ (fun i acc H8 _ z=>SqT.of (z.1 _ _ (s6 _ _ hb))) ?_ ?_
  ·rintro i v acc H8 hi ⟨s8,h8,rfl⟩;refine iL ?_;intro kq2 kr2;obtain⟨x,hx,c,pp,t,bb,rfl,g1,g2,g3,_⟩:=fW ho hi;have il:=(ED.mp hi).1;refine⟨_,rfl,c,_,_,_,rfl,rfl,(s6.trans s8).tup g1,aB (j:=0) rfl,h8,aM (by rw[Ew,Ew,E9];omega),fun b5 o5 e5=>?_,ag,?_⟩
   ·rw[aN (fun z=>by rw[z,hD2]at e5;cases e5)];exact s8 _ _ e5
   ·rw[FD,hx,FN,EK,EK];rfl
  rintro acc H8 ⟨s8,h8,rfl⟩;rw[lz,FI]at h8;refine⟨D2,es.map hnm,rfl,.inl (SqL.of h8),by rw[Ew];omega,fun H9 s9=>⟨_,rfl,?_⟩⟩;have s69:=s6.trans (s8.trans s9);refine aT (fun y3=>?_) (fun y3=>?_)
  rotate_left
  ·rw[Fm]at y3;rw[y3,EO]at q
   first|exact q _ s69|(rw[y3];exact q _ s69)
  rw[y3,E1]at q;refine⟨_,rfl,b,rfl,⟨_,SqT.of (s69 _ _ hb)⟩,fun D3 hD3=>?_⟩;refine xj (K:=K) (a:=b) (xs:=us) (fun i acc H8=>aq H9 H8/\H8 D3=some (.lst acc)/\Paired (fun(v:V) (f:Int×Int)=>∃p,v=.ref p/\SqT K H8 p [.int f.1,.int f.2]) acc ((es.take i).map hpt)) ⟨aq.upd hD3,ag,.nil⟩ (fun i acc H8 _ z=>SqT.of (z.1 _ _ (s69 _ _ hb))) ?_ ?_
  ·rintro i v acc H8 hi ⟨s8,h8,pr⟩;refine iL ?_;intro kq3 kr3;obtain⟨x,hx,c,pp,t,bb,rfl,g1,g2,g3,_⟩:=fW ho hi;have il:=(ED.mp hi).1;have tk:=TK.lst (o:=.lst (acc++[.ref pp])) h8;refine⟨_,rfl,c,_,_,_,rfl,rfl,(s69.trans s8).tup g1,aB (j:=1) rfl,h8,aM (by rw[Paired.length pr,Ew,E9];omega),fun b5 o5 e5=>?_,ag,?_⟩
   ·rw[aN (fun z=>by rw[z,hD3]at e5;cases e5)];exact s8 _ _ e5
   ·rw[FD,hx,FN,EK];refine Paired.app (Paired.imp (fun _ _ ⟨p,e,z⟩=>⟨p,e,tk.sq z⟩) pr) (.cons ⟨pp,rfl,tk.sq ?_⟩ .nil);rw[g3];exact(s69.trans s8).tup g2
  rintro acc H10 ⟨s10,h10,pr⟩;rw[lz,FI]at pr;have fok:∀f∈es.map hpt,(1<=f.2/\f.2<=1000000000)/\(1<=f.1/\f.1<=f.2)/\Int.gcd f.1 f.2=1:=fun f hf=>by obtain⟨x,hx,rfl⟩:=FX.mp hf;obtain⟨i,hi⟩:=List.getElem?_of_mem hx;have il:=(ED.mp hi).1;obtain⟨x',hx',c,pp,t,bb,_,_,_,g3,g4⟩:=fW ho (ER (l:=us) (i:=i) (by omega));rw[hi]at hx';cases hx';rw[g3];exact g4
  obtain⟨DD,d1,d2,d3⟩:=wH (es.map hpt) fun f hf=>(fok f hf).1;refine⟨D3,acc,es.map hpt,DD,rfl,SqL.of h10,pr,fun f hf=>⟨⟨by have:=fok f hf;omega,(fok f hf).2.2⟩,by have:=fok f hf;omega,(fok f hf).2.1.2,d3 f hf⟩,⟨d1,?_⟩,by rw[Ew];omega,fun pp H11 s11 hp=>?_⟩
  ·refine d2.mono ?_;rw[Ew];omega
  ·refine⟨_,_,Dx hp,Dx (tu_ALL _),rfl,rfl,Et rfl,?_⟩;rw[yT (sumF (es.map hpt)) (1,1)];exact q _ (s69.trans (s10.trans s11))
 |_=>exact fL (q _ (aq.refl _))
def mO(K:Frag):Sp:=fun vs H Q _=>∃(fl:Addr)(w h:Nat)(v:V)(d:PyData),vs=[.ref fl,v]/\SqT K H fl [.int (w:Nat),.int (h:Nat)]/\(0<w/\w<=8)/\(0<h/\h<=8)/\TD H d v/\∀H',aq H H'->Q (.bl (jh w h d)) H'
variable(d9:Df P w K mg base 7 "is_piece" ["floor","thing"] (mO K))
theorem tG:ay ["floor","thing"] ["floor","thing"] (ao (top 50)):=by trivial
include B aI lK iy in
theorem tY(T:Tx K mg "is_piece" (top 50) ["floor","thing"]):Df P w K mg base 7 "is_piece" ["floor","thing"] (mO K):=by
 refine T.df tG (by rintro _ _ _ _ ⟨fl,w,h,v,d,rfl,hF,⟨hw,hw8⟩,⟨hh,hh8⟩,hd,q⟩;rfl) ?_;rintro f _ A _ s H _ Q E hr ⟨fl,w,h,v,d,rfl,hF,⟨hw,hw8⟩,⟨hh,hh8⟩,hd,q⟩;refine⟨_,(ai (aw (cy (au aI hr (aa (pv 1) (aa ae (aa (au iy hr (aa (pv 0) af)) af)))) (bQ (au lK hr (aa (pv 0) (aa (pv 1) af))))))),?_⟩;refine⟨_,rfl,_,rfl,fl,w,h,rfl,hF,⟨hw8,hh8⟩,v,d,1,_,rfl,hd,_,rfl,?_⟩;cases hd with
 |int i=>
  have e:jh w h (.int i)=(wi 1 ((2^(w*h)-1:Nat):Int) (.int i)&& @decide (∃ps,gv w h i.toNat ps/\ps.length=1) (Classical.propDecidable _)):=rfl;rw[e]at q;have ew:wi 1 ((2^(w*h)-1:Nat):Int) (.int i)=(decide (1<=i)&&decide (i<=((2^(w*h)-1:Nat):Int))):=rfl;refine aT (fun z=>?_) (fun z=>?_)
  ·rw[z,E1]at q;rw[ew,EL,Ez,Ez]at z;obtain⟨c,rfl⟩:=F7 (show 0<=i by omega);have hc:c<2^(w*h):=by
    have:=Gf (w*h);omega
   refine⟨_,rfl,_,rfl,fl,w,h,c,rfl,hF,⟨hw,hw8,hh8⟩,hc,fun ps H' isP s'=>?_⟩;have e2:decide (ps.length=1)= @decide (∃ps,gv w h ((c:Nat):Int).toNat ps/\ps.length=1) (Classical.propDecidable _):=by
    rw[ET]
    exact Fu.mpr ⟨fun l=>@Ey _ (Classical.propDecidable _) ⟨ps,isP,EA l⟩,fun z=>by
     obtain⟨qs,isQ,l⟩:=@EA _ (Classical.propDecidable _) z;rw[isP.uniq isQ]
     exact Ey l⟩
   rw[e2];exact q _ s'
  ·rw[Fm]at z;rw[z,EO]at q;exact q _ (aq.refl _)
 |_=>exact bP (q _ (aq.refl _))
def jK(K:Frag):Sp:=spG K .pc
variable(fT:Df P w K mg base 8 "good_piece" ["floor","row","place"] (jK K))
theorem pD:ay ["floor","row","place"] ["floor","row","place"] (ao (top 55)):=by trivial
include B d9 in
theorem pK(T:Tx K mg "good_piece" (top 55) ["floor","row","place"]):Df P w K mg base 8 "good_piece" ["floor","row","place"] (jK K):=by refine T.df pD (by rintro _ _ _ _ ⟨fl,r,w,h,p,ds,rfl,hF,⟨hw,hw8⟩,⟨hh,hh8⟩,rr,⟨p1,pl⟩,pre,q⟩;rfl) ?_;rintro f _ A _ s H _ Q E hr ⟨fl,r,w,h,p,ds,rfl,hF,⟨hw,hw8⟩,⟨hh,hh8⟩,rr,⟨p1,pl⟩,pre,q⟩;refine⟨_,(ai (aw (au d9 hr (aa (pv 0) (aa (aF aG (pv 1) (pv 2) (fun _ _=>rfl)) af))))),?_⟩;obtain⟨vs,v,hr1,ev,td,dep⟩:=rr.at pl;exact⟨_,rfl,_,rfl,_,rfl,r,_,_,_,rfl,rfl,SqT.of hr1,aB ev,fl,w,h,v,_,rfl,hF,⟨hw,hw8⟩,⟨hh,hh8⟩,td,q⟩
def kA(K:Frag):Sp:=spG K .over
variable(gO:Df P w K mg base 8 "good_over" ["floor","row","place"] (kA K))
theorem qJ:ay ["floor","row","place"] ["floor","row","place"] (ao (top 69)):=by trivial
include B aI d9 bI in
theorem rk(T:Tx K mg "good_over" (top 69) ["floor","row","place"]):Df P w K mg base 8 "good_over" ["floor","row","place"] (kA K):=by
 refine T.df qJ (by rintro _ _ _ _ ⟨fl,r,w,h,p,ds,rfl,hF,⟨hw,hw8⟩,⟨hh,hh8⟩,rr,⟨p1,pl⟩,pre,q⟩;rfl) ?_;rintro f _ A _ s H _ Q E hr ⟨fl,r,w,h,p,ds,rfl,hF,⟨hw,hw8⟩,⟨hh,hh8⟩,rr,⟨p1,pl⟩,pre,q⟩;have hu:=hr.units;refine bq ?_;intro kX;refine ar 1 (ai (aw (au aI hr (aa (aF aG (pv 1) (pv 2) (fun _ _=>rfl)) (aa ae (aa ae af)))))) ?_;intro kR1 pR1;refine⟨_,(ah (aS (aC (mf hu) (aF aG (pv 1) (bw (v:=.int 5) (by rfl) bI.choose_spec ⟨_,rfl⟩) (fun _ _=>rfl)) aO (aA _)) (ai (aw (au d9 hr (aa (pv 0) (aa (aF aG (pv 1) (pv 2) (fun _ _=>rfl)) af))))) aD) pR1),?_⟩;obtain⟨vs,v,hr1,ev,td,dep⟩:=rr.at pl;obtain⟨vs',v5,hr5,ev5,td5,dep5⟩:=rr.at (show 5<ds.length from pre);rw[hr1]at hr5;cases hr5;have e:lkB w h ds p .over=if PyData.eqv (thg ds 5) (.str "way")=true then jh w h (thg ds p)else wi 0 0 (thg ds p):=rfl
 rw[e]at q;refine⟨_,rfl,r,_,_,_,rfl,rfl,SqT.of hr1,aB ev5,_,_,td5.isD,.str _,td5.lay,Al,by decide,_,rfl,?_⟩;refine aT (fun y=>?_) (fun y=>?_)
 ·rw[Fl y]at q;exact⟨_,rfl,_,rfl,_,rfl,r,_,_,_,rfl,rfl,SqT.of hr1,aB ev,fl,w,h,v,_,rfl,hF,⟨hw,hw8⟩,⟨hh,hh8⟩,td,q⟩
 ·rw[Fb y]at q;exact⟨_,rfl,_,rfl,r,_,_,_,rfl,rfl,SqT.of hr1,aB ev,v,_,0,0,rfl,td,q _ (aq.refl _)⟩
def tq(K:Frag)(mg:Str->Option Value):Sp:=fun vs H Q E=>∃(fl:Addr)(wd hi:Nat)(v:V)(d:PyData),vs=[.ref fl,v]/\SqT K H fl [.int (wd:Nat),.int (hi:Nat)]/\(0<wd/\wd<=8)/\(0<hi/\hi<=8)/\TD H d v/\d.depth<=5/\(dX wd hi d=none->∀H',aq H H'->Q .non H')/\∀p,dX wd hi d=some p->∀dx H',aq H H'->H' dx=some (XD dx [("place",.int (p:Nat))])->E (vX mg "BadPaper") (some dx) H'
variable(nA:DfN P w K mg base 9 "check" ["floor","row"] (tq K mg))
theorem oj:ay ["floor","row","place","look"] ["floor","row"] (ao (top 73)):=by trivial
include B ix cH cI gT ff fT fg dI dy gU gS gR dw gK fh fS cT fj fR gO gP gu dz Y_LOOKS fm in
theorem zp(T:Tx K mg "check" (top 73) ["floor","row"]):DfN P w K mg base 9 "check" ["floor","row"] (tq K mg):=by
 obtain⟨pL,kvs,gL,dL,nL,lL⟩:=Y_LOOKS.ex;refine T.dfN oj (by rintro _ _ _ _ ⟨fl,wd,hi,v,d,rfl,hF,hw,hh,td,dep,q1,q2⟩;rfl) ?_;rintro f _ A _ s H _ Q E hr ⟨fl,wd,hi,v,d,rfl,hF,hw,hh,td,dep,q1,q2⟩;refine bq ?_;intro kX;refine ar 1 (ai (je PassesOwn.leaving rfl (yZ (by rfl) B.enumerate (aa (wJ (bw (v:=.ref pL) (by rfl) gL rfl) (aF aG (pv 1) ae (fun _ _=>rfl)) (fun _ _=>rfl)) af)) (y6 rfl (kQ (bJ (i:=2) oj.nd rfl (by trivial)) (kQ (bJ (i:=3) oj.nd rfl (by trivial)) wI))) (ai (aS (cw (cn (B3 ["floor","row","place"] (pv 3) hr (aa (pv 0) (aa (pv 1) (aa (pv 2) af)))))) (ai (pY (W:=RzW H E) rfl (za gu hr (aa (AI (pv 2)) (aa (pv 2) af))) (fun _ _ _ _ _ _ _ I hx ee=>wm I hx ee.1 ee.2))) aD)))) ?_;intro kR1 pR1;refine⟨_,(ah (aS (cw (cn (au ix hr (aa (pv 1) af)))) (ai (pY (W:=RzW H E) rfl (za gu hr (aa aO (aa ae af))) (fun _ _ _ _ _ _ _ I hx ee=>wm I hx ee.1 ee.2))) aD) pR1),?_⟩;refine⟨_,rfl,v,d,rfl,td,_,rfl,?_⟩;have GL:∀l:Lk,∃j,j<=8/\Df P w K mg base j l.nm ["floor","row","place"] (spG K l):=fun l=>by
  cases l with
  |num=>exact⟨_,by decide,cH⟩
  |onum=>exact⟨_,by decide,cI⟩
  |date=>exact⟨_,by decide,gT⟩
  |sgn=>exact⟨_,by decide,ff⟩
  |pc=>exact⟨_,by decide,fT⟩
  |shr=>exact⟨_,by decide,fg⟩
  |cell=>exact⟨_,by decide,dI⟩
  |ocell=>exact⟨_,by decide,dy⟩
  |axis=>exact⟨_,by decide,gU⟩
  |line=>exact⟨_,by decide,gS⟩
  |name=>exact⟨_,by decide,gR⟩
  |oname=>exact⟨_,by decide,dw⟩
  |part=>exact⟨_,by decide,gK⟩
  |grd=>exact⟨_,by decide,fh⟩
  |trust=>exact⟨_,by decide,fS⟩
  |bkind=>exact⟨_,by decide,cT⟩
  |amt=>exact⟨_,by decide,fj⟩
  |til=>exact⟨_,by decide,fR⟩
  |over=>exact⟨_,by decide,gO⟩
  |note=>exact⟨_,by decide,gP⟩
 cases ek:fu d with
 |none=>
  have eb:dX wd hi d=some 0:=by unfold dX;rw[ek];cases d<;>rfl
  exact fL ⟨aK rfl,zZ dz fm (aq.refl _) (q2 0 eb)⟩
 |some ls=>
  obtain⟨x,r,rfl,el,lr⟩:=ux ek;have eb:dX wd hi (.tuple (.str x::r))=gs wd hi (.str x::r) 1 ls:=by unfold dX;rw[ek]
  rw[eb]at q1 q2;refine bP ?_;obtain⟨a,rfl⟩:∃a,v=.ref a:=by cases td;exact⟨_,rfl⟩
  have rr:RwE H a (.str x::r):=⟨td,dep⟩;obtain⟨vs,hv,z⟩:=rr.vs;obtain⟨v0,e0,t0⟩:=z.at (i:=0) rfl;cases t0;have en:=uq x;rw[el]at en;obtain⟨t,fs,e1,e2,e3⟩:=lL x _ en;have lf:fs.length=ls.length:=by rw[Paired.length e3,Ew]
  refine⟨_,rfl,a,_,_,_,rfl,rfl,SqT.of hv,aB (j:=0) e0,pL,kvs,x,_,rfl,dL,rfl,e1,t,rfl,⟨_,e2 H⟩,?_⟩;refine yn (K:=K) (a:=t) (xs:=fs.map V.ref) (fun i σ H2=>∃(o2 o3:Option V),σ=[some (.ref fl),some (.ref a),o2,o3]/\aq H H2/\gs wd hi (.str x::r) 1 (ls.take i)=none) ⟨none,none,rfl,aq.refl _,rfl⟩ (fun i σ H2 _ _=>e2 H2) ?_ ?_
  ·rintro i y σ H2 T hy ⟨o2,o3,rfl,s2,nb⟩ hT;rw[E8]at hy;obtain⟨f',hf,rfl⟩:=Option.map_eq_some_iff.mp hy;obtain⟨n,hn,gn⟩:=fW e3 hf;rw[E8]at hn;obtain⟨l,hl,rfl⟩:=Option.map_eq_some_iff.mp hn;obtain⟨j,hj,D⟩:=GL l;have sT:=aq.upd (o:=.tup [.int ((i+1:Nat):Int),.ref f']) hT;have s3:=s2.trans sT;have il:=(ED.mp hl).1;refine⟨T,_,rfl,SqT.of ag,rfl,_,_,rfl,_,_,rfl,rfl,?_⟩;refine⟨f',l.nm,spG K l,j,rfl,hj,D,gn,_,rfl,_,rfl,_,rfl,fl,a,wd,hi,i+1,.str x::r,rfl,s3.tup hF,hw,hh,rr.same s3,⟨by omega,by rw[ES];omega⟩,pre_of el lr hl nb,fun H5 s5=>⟨_,rfl,?_⟩⟩;have ea:gs wd hi (.str x::r) 1 (ls.take (i+1))=if lkB wd hi (.str x::r) (i+1) l=true then none else some (i+1):=by
    rw[FD,hl,FN,lS,nb,E9,Nat.min_eq_left (by omega),Option.none_or,show 1+i=i+1 by omega];rfl
   cases yl:lkB wd hi (.str x::r) (i+1) l with
   |true=>rw[yl,Fl rfl]at ea;exact bP ⟨_,_,rfl,s3.trans s5,ea⟩
   |false=>
    rw[yl,Fb EE]at ea;have eb2:gs wd hi (.str x::r) 1 ls=some (i+1):=by rw[<-List.take_append_drop (i+1) ls,lS,ea];rfl
    refine fL ⟨_,rfl,_,rfl,⟨by omega,?_⟩,fun y=>⟨_,rfl,aK rfl,zZ dz fm (s3.trans s5) fun dx H' s' hd=>q2 (i+1) eb2 dx H' ((s3.trans s5).trans s') hd⟩⟩;have:=(um el);have:ls.length<=12:=by
     unfold bE at el
     repeat' split at el
     all_goals first|(cases el;decide)|cases el
    omega
  ·rintro σ H2 ⟨o2,o3,rfl,s2,nb⟩;rw[Ew,lf,FI]at nb;exact q1 nb _ s2
def iQ(K:Frag)(mg:Str->Option Value):Sp:=fun vs H Q _=>∃(fl:Addr)(wd hi:Nat)(v:V)(d:PyData),vs=[.ref fl,v]/\SqT K H fl [.int (wd:Nat),.int (hi:Nat)]/\(0<wd/\wd<=8)/\(0<hi/\hi<=8)/\TD H d v/\d.depth<=5/\(dX wd hi d=none->∀H',aq H H'->Q .non H')/\∀p,dX wd hi d=some p->∀l H',aq H H'->H' l=some (.tup [.int (p:Nat),.bl true,.bl true,.bl false])->Q (.ref l) H'
variable(cf:Df P w K mg base 10 "_law_checked" ["_law_floor","_law_row"] (iQ K mg))
theorem dD:ay ["_law_floor","_law_row","_law_found","e"] ["_law_floor","_law_row"] (ao (top 104)):=by trivial
include B nA fU gx qp dz nu e6 gG dO k_BadPaper_LandError bB k_BadPaper_Falls k_BadPaper_Late in
theorem oB(T:Tx K mg "_law_checked" (top 104) ["_law_floor","_law_row"]):Df P w K mg base 10 "_law_checked" ["_law_floor","_law_row"] (iQ K mg):=by
 refine T.df dD (by rintro _ _ _ _ ⟨fl,wd,hi,v,d,rfl,hF,hw,hh,td,dep,q1,q2⟩;rfl) ?_;rintro f _ A _ s H _ Q E hr ⟨fl,wd,hi,v,d,rfl,hF,hw,hh,td,dep,q1,q2⟩;refine bq ?_;intro kX;refine ar 2 (ai (aw (pv 2))) ?_;intro kR2 pR2;refine ar 1 (ah (AD (m:=3) dD.nd rfl rfl (fun _ _=>(ai (az (i:=2) dD.nd rfl (by trivial) (B4 nA hr (xR fun _ _ _ h=>h) (aa (pv 0) (aa (pv 1) af)))))) (fun _=>(ai (az (i:=2) dD.nd rfl (by trivial) (bu (aa (AJ (K:=K) rfl (pv 3)) (aa (aP (pq (K:=K) rfl) (by rfl) B.isinstance Fn (aa (pv 3) (aa (bw (v:=.ref cg) (by rfl) gx.mg rfl) af))) (aa (aP (pq (K:=K) rfl) (by rfl) B.isinstance Fn (aa (pv 3) (aa (dh (x:="ValueError") (v:=.ty "ValueError") (by rfl) fU (by trivial) rfl) af))) (aa (aP (uL (K:=K) rfl) (by rfl) B.isinstance Fn (aa (pv 3) (aa (bu (aa (bw (v:=.ref fV) (by rfl) nu.mg rfl) (aa (bw (v:=.ref iC) (by rfl) qp.mg rfl) af))) af))) af))))))))) pR2) ?_;intro kR1 pR1;refine⟨_,(ah (az (i:=2) dD.nd rfl (by trivial) (bu af)) pR1),?_⟩;refine⟨aK rfl,fun t0 ht0=>?_⟩;have u0:=aq.upd (o:=.tup []) ht0;generalize (upd H t0 (.tup []))=H0 at u0 ⊢;refine⟨_,rfl,_,rfl,fl,wd,hi,v,d,rfl,u0.tup hF,hw,hh,td.same u0,dep,fun nb H' s'=>?_,fun p pb dx H' s' hd=>?_⟩
 ·exact⟨_,rfl,q1 nb _ (u0.trans s')⟩
 ·refine⟨aH,uJ dz,gG,fun y σ' hσ hy=>?_⟩;obtain⟨o0,o1,o2,o3,rfl⟩:=st4 hσ;have u1:=aq.upd (o:=XN y aH (some dx)) hy;have ky:(upd H' y (XN y aH (some dx))) y=some (XN y aH (some dx)):=ag;have hd2:=u1 _ _ hd;generalize (upd H' y (XN y aH (some dx)))=H1 at u1 ky hd2 ⊢;refine⟨_,rfl,y,aH,dx,_,_,rfl,ky,hd2,dO,rfl,?_⟩;refine⟨_,rfl,y,aH,_,_,_,_,rfl,ky,e6,rfl,(fun u z=>z),k_BadPaper_LandError,?_⟩;refine⟨_,rfl,y,aH,_,_,_,_,rfl,ky,e6,rfl,(fun u z=>z),bB,?_⟩;refine⟨_,rfl,aK rfl,fun tp htp=>?_⟩;have u2:=aq.upd (o:=.tup [.ref fV,.ref iC]) htp;refine⟨y,aH,_,tp,fV,iC,_,_,rfl,u2 _ _ ky,e6,SqT.of ag,k_BadPaper_Falls,k_BadPaper_Late,aK rfl,fun t ht=>?_⟩;have u3:=aq.upd (o:=.tup [.int (p:Nat),.bl true,.bl true,.bl (false||false)]) ht;exact⟨_,rfl,q2 p pb t _ (u0.trans (s'.trans (u1.trans (u2.trans u3)))) ag⟩
def iP(K:Frag):Sp:=fun vs H Q _=>∃(fl:Addr)(wd hi:Nat)(v:V)(d:PyData)(p:Nat),vs=[.ref fl,v,.int (p:Nat)]/\SqT K H fl [.int (wd:Nat),.int (hi:Nat)]/\(0<wd/\wd<=8)/\(0<hi/\hi<=8)/\TD H d v/\d.depth<=5/\dX wd hi d=some p/\∀H',aq H H'->Q (.bl true) H'
variable(cY:Df P w K mg base 11 "_law_refused" ["_law_floor","_law_spoilt","_law_place"] (iP K))
theorem i7:ay ["_law_floor","_law_spoilt","_law_place","_law_found"] ["_law_floor","_law_spoilt","_law_place"] (ao (top 105)):=by trivial
include B cf cM in
theorem oA(T:Tx K mg "_law_refused" (top 105) ["_law_floor","_law_spoilt","_law_place"]):Df P w K mg base 11 "_law_refused" ["_law_floor","_law_spoilt","_law_place"] (iP K):=by refine T.df i7 (by rintro _ _ _ _ ⟨fl,wd,hi,v,d,p,rfl,hF,hw,hh,td,dep,hb,q⟩;rfl) ?_;rintro f _ A _ s H _ Q E hr ⟨fl,wd,hi,v,d,p,rfl,hF,hw,hh,td,dep,hb,q⟩;have hu:=hr.units;refine bq ?_;intro kX;refine ar 2 (ai (aw (ba (mf hu) (eG Ar (pv 3) (cB ae) cQ) (bu (aa eI (aa eI (aa eI af)))) (aA _)))) ?_;intro kR2 pR2;refine ar 1 (ah (aS ((iJ (cw (cn (aP cL (by rfl) B.isinstance Fn (aa (pv 3) (aa (dh (x:="tuple") (v:=.ty "tuple") (by rfl) B.tuple boot_tuple rfl) af))))) (iJ (aC kR (aP br (by rfl) B.len Fv (aa (pv 3) af)) ae (aA _)) (iJ (cw (cn (au cM hr (aa (aF aG (pv 3) ae (fun _ _=>rfl)) af)))) (ip (aC kR (aF aG (pv 3) ae (fun _ _=>rfl)) (pv 2) (aA _)))))).pt) (ai (aw eI)) aD) pR2) ?_;intro kR1 pR1;refine⟨_,(ah (az (i:=3) i7.nd rfl (by trivial) (au cf hr (aa (pv 0) (aa (pv 1) af)))) pR1),?_⟩;refine⟨_,rfl,_,rfl,fl,wd,hi,v,d,rfl,hF,hw,hh,td,dep,(fun nb=>by rw[hb]at nb;cases nb),fun p' pb l H1 s1 hl=>?_⟩;rw[hb]at pb;cases pb;refine⟨_,rfl,_,_,_,_,rfl,dJ.tup hl,Cg K,_,rfl,bP ?_⟩;refine⟨_,rfl,l,_,rfl,.inr (SqT.of hl),rfl,_,rfl,bP ?_⟩;refine⟨_,rfl,l,_,_,_,rfl,rfl,SqT.of hl,aB (j:=0) rfl,_,"int",rfl,dJ.int _,_,rfl,bP ?_⟩;refine⟨_,rfl,l,_,_,_,rfl,rfl,SqT.of hl,aB (j:=0) rfl,_,rfl,rfl,_,rfl,?_⟩;refine aT (fun z=>absurd z (by simp)) (fun _=>?_);refine⟨_,rfl,_,rfl,l,_,rfl,SqT.of hl,fun r H2 s2 hr2=>⟨aK rfl,fun t ht=>?_⟩⟩;have u3:=aq.upd (o:=.tup [.bl true,.bl true,.bl false]) ht;have hr3:SqT K H2 r [.bl true,.bl true,.bl false]:=hr2;refine⟨_,_,.tup (u3.tup hr3) (.cons (.bl _) (.cons (.bl _) (.cons (.bl _) .nil))),.tup (SqT.of ag) (.cons (.bl _) (.cons (.bl _) (.cons (.bl _) .nil))),rfl,rfl,by decide,?_⟩;exact q _ (s1.trans (s2.trans u3))
def yF(K:Frag):Sp:=fun vs H Q _=>∃(a:Addr)(ns:List Int),vs=[.ref a]/\SqL K H a (ns.map V.int)/\ns.length<=63/\∀H',Q (.bl true) H'
theorem ik:ay ["_law_script","_law_wide","_law_high","_law_row","_law_cell","_law_later","_law_place","_law_bad_here"] ["_law_script"] (ao (top 107)):=by trivial
include B iw aU cY jy cf gJ fO in
theorem B9{f:Addr}{fd:FuncData}(F:Fun K "law" "law" (top 107) f fd):lV P w K mg base CX0 12 f fd ["_law_script"] (yF K):=by
 refine F.ok ik (by rintro _ _ _ _ ⟨a,ns,rfl,hS,hlen,q⟩;rfl) ?_;rintro _ A _ s H _ Q E hr ⟨a,ns,rfl,hS,hlen,q⟩;refine⟨_,(@ah _ _ _ _ _ (@az _ _ 1 _ _ _ _ ik.nd rfl (by trivial) (aj bf ae (aj aY (au aU hr (@aa _ _ _ _ _ (pv 0) (@aa _ _ _ _ _ ae af rfl) rfl)) ae)) rfl (by trivial)) (@ah _ _ _ _ _ (@az _ _ 2 _ _ _ _ ik.nd rfl (by trivial) (aj bf ae (aj aY (aj cb (au aU hr (@aa _ _ _ _ _ (pv 0) (@aa _ _ _ _ _ ae af rfl) rfl)) ae) ae)) rfl (by trivial)) (@ah _ _ _ _ _ (@az _ _ 3 _ _ _ _ ik.nd rfl (by trivial) (au iw hr (@aa _ _ _ _ _ (pv 0) (@aa _ _ _ _ _ (pv 1) (@aa _ _ _ _ _ (pv 2) af rfl) rfl) rfl)) rfl (by trivial)) (@ah _ _ _ _ _ (@az _ _ 4 _ _ _ _ ik.nd rfl (by trivial) (au aU hr (@aa _ _ _ _ _ (pv 0) (@aa _ _ _ _ _ ae af rfl) rfl)) rfl (by trivial)) (@ah _ _ _ _ _ (aS ((iJ (aC AL (au cf hr (@aa _ _ _ _ _ (@bu _ _ _ _ _ (@aa _ _ _ _ _ (pv 1) (@aa _ _ _ _ _ (pv 2) af rfl) rfl)) (@aa _ _ _ _ _ (pv 3) af rfl) rfl)) jg (aA _)) (ip (cw (cn (au gJ hr (@aa _ _ _ _ _ (pv 3) (@aa _ _ _ _ _ (pv 4) af rfl) rfl)))))).pt) (@ai _ _ _ (@aw _ _ _ _ eI)) aD) (@ah _ _ _ _ _ (aS (cw (cn (au cY hr (@aa _ _ _ _ _ (@bu _ _ _ _ _ (@aa _ _ _ _ _ (pv 1) (@aa _ _ _ _ _ (pv 2) af rfl) rfl)) (@aa _ _ _ _ _ (au fO hr (@aa _ _ _ _ _ (pv 3) (@aa _ _ _ _ _ (au aU hr (@aa _ _ _ _ _ (pv 0) (@aa _ _ _ _ _ ae af rfl) rfl)) af rfl) rfl)) (@aa _ _ _ _ _ ae af rfl) rfl) rfl)))) (@ai _ _ _ (@aw _ _ _ _ eI)) aD) (@ah _ _ _ _ _ (@az _ _ 5 _ _ _ _ ik.nd rfl (by trivial) (pv 3) rfl (by trivial)) (@ah _ _ _ _ _ (je FG rfl (xP (by rfl) B.range (@aa _ _ _ _ _ (aj aZ (aP br (by rfl) B.len Fv (@aa _ _ _ _ _ (pv 3) af rfl)) ae) (@aa _ _ _ _ _ ae (@aa _ _ _ _ _ (iK gV ae) af rfl) rfl) rfl)) (bJ (i:=6) ik.nd rfl (by trivial)) (@ah _ _ _ _ _ (@az _ _ 7 _ _ _ _ ik.nd rfl (by trivial) (au jy hr (@aa _ _ _ _ _ (pv 3) (@aa _ _ _ _ _ (pv 6) (@aa _ _ _ _ _ (aj bf (aj cb (au aU hr (@aa _ _ _ _ _ (pv 0) (@aa _ _ _ _ _ ae af rfl) rfl)) ae) (aj bN (aj bN (pv 6) (pv 6)) (aj bf ae (aj aY (pv 4) ae)))) (@aa _ _ _ _ _ (pv 1) (@aa _ _ _ _ _ (pv 2) af rfl) rfl) rfl) rfl) rfl)) rfl (by trivial)) (@ah _ _ _ _ _ (aS (cw (cn (au cY hr (@aa _ _ _ _ _ (@bu _ _ _ _ _ (@aa _ _ _ _ _ (pv 1) (@aa _ _ _ _ _ (pv 2) af rfl) rfl)) (@aa _ _ _ _ _ (aj fH (aj fH (eG kI (pv 3) cQ (cB (pv 6))) (@bu _ _ _ _ _ (@aa _ _ _ _ _ (pv 7) af rfl))) (eG kI (pv 3) (cB (aj bf (pv 6) ae)) cQ)) (@aa _ _ _ _ _ (pv 6) af rfl) rfl) rfl)))) (@ai _ _ _ (@aw _ _ _ _ eI)) aD) (@ah _ _ _ _ _ (@az _ _ 5 _ _ _ _ ik.nd rfl (by trivial) (aj fH (aj fH (eG kI (pv 5) cQ (cB (pv 6))) (@bu _ _ _ _ _ (@aa _ _ _ _ _ (pv 7) af rfl))) (eG kI (pv 5) (cB (aj bf (pv 6) ae)) cQ)) rfl (by trivial)) (@ai _ _ _ (aS ((gg (aC aV (aj aY (aj cb (pv 4) ae) ae) ae (aA _)) (e8 (cw (cn (au cY hr (@aa _ _ _ _ _ (@bu _ _ _ _ _ (@aa _ _ _ _ _ (pv 1) (@aa _ _ _ _ _ (pv 2) af rfl) rfl)) (@aa _ _ _ _ _ (pv 5) (@aa _ _ _ _ _ (pv 6) af rfl) rfl) rfl)))))).pt) (@ai _ _ _ (@aw _ _ _ _ eI)) aD)))))) (@ai _ _ _ (@aw _ _ _ _ (ba zf (au cf hr (@aa _ _ _ _ _ (@bu _ _ _ _ _ (@aa _ _ _ _ _ (pv 1) (@aa _ _ _ _ _ (pv 2) af rfl) rfl)) (@aa _ _ _ _ _ (pv 3) af rfl) rfl)) jg (aA _)))))))))))),?_⟩;obtain⟨w,ew,hw,hw8⟩:=BI (ns.getD 0 0);obtain⟨h,eh,hh,hh8⟩:=BI (ns.getD 0 0 / 8);have hwh:w*h<=64:=Fw hw8 hh8;have hwp:0<w*h:=Nat.mul_pos hw hh;have e1:((w:Int)*(h:Int))=((w*h:Nat):Int):=by simp
 refine⟨_,rfl,a,ns,0,rfl,hS,_,_,rfl,rfl,(by show(0:Int)<_;decide),_,_,rfl,rfl,?_⟩;simp only[ew];refine⟨_,rfl,a,ns,0,rfl,hS,_,_,rfl,rfl,⟨by decide,by decide⟩,_,_,rfl,rfl,(by show(0:Int)<_;decide),_,_,rfl,rfl,?_⟩;simp only[eh];refine⟨_,rfl,_,rfl,_,rfl,a,ns,w,h,rfl,hS,⟨hw,hw8⟩,⟨hh,hh8⟩,fun r ds H1 s1 tR gd dep=>?_⟩;have d5:(PyData.tuple ds).depth<=5:=by show PyData.depthAll ds+1<=5;omega
 obtain⟨x,ls,h0,hx⟩:=yj gd;obtain⟨lds,_⟩:=uC gd h0 hx;obtain⟨_,_,_,_,b4,b5⟩:=qS hx;refine⟨_,rfl,a,ns,8,rfl,s1.seq hS,?_⟩;obtain⟨c,ec⟩:∃c,c=ns.getD 8 0:=⟨_,rfl⟩;rw[<-ec];refine⟨_,rfl,_,rfl,aK rfl,fun t1 ht1=>?_⟩;have s2:=aq.upd (o:=.tup [.int (w:Nat),.int (h:Nat)]) ht1;have k2:(upd H1 t1 (.tup [.int (w:Nat),.int (h:Nat)])) t1=some (.tup [.int (w:Nat),.int (h:Nat)]):=ag;generalize (upd H1 t1 (.tup [.int (w:Nat),.int (h:Nat)]))=H2 at s2 k2 ⊢;refine⟨_,rfl,t1,w,h,.ref r,.tuple ds,rfl,SqT.of k2,⟨hw,hw8⟩,⟨hh,hh8⟩,tR.same s2,d5,(fun _ H3 s3=>?_),fun p pb=>by rw[gd]at pb;cases pb⟩;refine⟨rfl,_,rfl,bP ?_⟩;have s123:=s1.trans (s2.trans s3);refine⟨_,rfl,_,rfl,c,r,ds,rfl,tR.same (s2.trans s3),by omega,fun H4 s4=>⟨_,rfl,bP ?_⟩⟩;refine⟨_,rfl,_,rfl,aK rfl,fun t5 ht5=>?_⟩;have s5:=aq.upd (o:=.tup [.int (w:Nat),.int (h:Nat)]) ht5;have k5:(upd H4 t5 (.tup [.int (w:Nat),.int (h:Nat)])) t5=some (.tup [.int (w:Nat),.int (h:Nat)]):=ag;generalize (upd H4 t5 (.tup [.int (w:Nat),.int (h:Nat)]))=H5 at s5 k5 ⊢;refine⟨_,rfl,_,rfl,a,ns,9,rfl,(s123.trans (s4.trans s5)).seq hS,_,r,ds,x,ls,rfl,tR.same (s2.trans (s3.trans (s4.trans s5))),h0,hx,lds,dep,fun v6 d6 H6 s6 t6 kn6 dp6=>?_⟩;refine⟨t5,w,h,v6,d6,0,rfl,SqT.of (s6 _ _ k5),⟨hw,hw8⟩,⟨hh,hh8⟩,t6,dp6,uy kn6,fun H7 s7=>⟨_,rfl,bP ?_⟩⟩;have s17:=s2.trans (s3.trans (s4.trans (s5.trans (s6.trans s7))));have tR7:=tR.same s17;have hS7:=(s1.trans s17).seq hS;clear tR hS s123 s2 s3 s4 s5 s6 k2 k5 t6 s17 s7 s1;obtain⟨r',us,er,hr,zr⟩:=tR7.tupE;cases er;have lu:=zr.len;refine⟨_,rfl,?_⟩;refine⟨_,rfl,r,us,rfl,.inr (SqT.of hr),_,_,rfl,rfl,_,rfl,_,0,rfl,⟨by omega,by omega,by decide,by decide⟩,?_⟩;have en:(((us.length:Nat):Int)-1-0).toNat=ds.length-1:=by omega
 show ∃W:Nat->Nat->L2.St->Hp->Prop,_;rw[en];refine zJ (lo:=((us.length:Nat):Int)-1) (n:=ds.length-1) (fun i σ H'=>∃(o6 o7:Option V)(lt:Addr)(dl:List PyData),σ=[some (.ref a),some (.int (w:Nat)),some (.int (h:Nat)),some (.ref r),some (.int c),some (.ref lt),o6,o7]/\aq H7 H'/\TD H' (.tuple dl) (.ref lt)/\dl.length=ds.length/\(∀j,j<ds.length-i->dl[j]?=ds[j]?)/\PyData.depthAll dl<=3) ⟨none,none,r,ds,rfl,aq.refl _,tR7,rfl,fun _ _=>rfl,dep⟩ ?_ ?_
 ·rintro i σ H8 hi ⟨o6,o7,lt,dl,rfl,s8,tl,ll,el,dpl⟩;refine oX ?_;intro kD1;obtain⟨p,ep⟩:∃p,p=ds.length-1-i:=⟨_,rfl⟩;have p1:1<=p:=by omega
  have pn:p<ds.length:=by omega
  have ev:((us.length:Nat):Int)-1-((i:Nat):Int)=((p:Nat):Int):=by omega
  rw[ev];obtain⟨l,hl⟩:∃l,ls[p-1]?=some l:=⟨_,ER (by omega)⟩;refine⟨_,rfl,_,rfl,_,rfl,a,ns,9,rfl,s8.seq hS7,_,_,rfl,rfl,⟨by decide,by decide⟩,?_⟩;refine⟨_,rfl,_,rfl,_,_,rfl,rfl,.inl ⟨by omega,by omega⟩,_,rfl,_,_,rfl,rfl,(by show(0:Int)<1009;decide),_,_,rfl,rfl,_,_,rfl,rfl,.inr ⟨by omega,by omega⟩,_,_,rfl,rfl,_,rfl,_,rfl,?_⟩;refine⟨r,ds,p,_,w,h,x,ls,l,rfl,tR7.same s8,gd,h0,hx,p1,hl,dep,⟨hw,hw8⟩,⟨hh,hh8⟩,fun vb db HB sB tb bad dpb=>?_⟩;refine⟨_,rfl,_,rfl,aK rfl,fun t9 ht9=>?_⟩;have s9:=aq.upd (o:=.tup [.int (w:Nat),.int (h:Nat)]) ht9;have k9:(upd HB t9 (.tup [.int (w:Nat),.int (h:Nat)])) t9=some (.tup [.int (w:Nat),.int (h:Nat)]):=ag;generalize (upd HB t9 (.tup [.int (w:Nat),.int (h:Nat)]))=H9 at s9 k9 ⊢;have s89:=s8.trans (sB.trans s9);have tb:=tb.same s9;have hr9:=s89 _ _ hr;have zr9:=zr.same s89;refine⟨_,rfl,_,rfl,_,rfl,r,us,rfl,hr9,fun ra1 Ha1 sa1 ka1=>?_⟩;refine⟨_,rfl,aK rfl,fun rb1 hb1=>?_⟩;have sb1:=aq.upd (o:=.tup [vb]) hb1;have kb1:(upd Ha1 rb1 (.tup [vb])) rb1=some (.tup [vb]):=ag;generalize (upd Ha1 rb1 (.tup [vb]))=Hb1 at sb1 kb1 ⊢;refine⟨ra1,rb1,_,_,rfl,rfl,sb1 _ _ ka1,kb1,FL (aM (by have:=cO us none (some ((p:Nat):Int));rw[Fq];omega)),fun rc1 Hc1 sc1 kc1=>?_⟩;refine⟨_,rfl,_,rfl,_,_,rfl,rfl,_,rfl,r,us,rfl,(sa1.trans (sb1.trans sc1)) _ _ hr9,fun rd1 Hd1 sd1 kd1=>?_⟩;refine⟨rc1,rd1,_,_,rfl,rfl,sd1 _ _ kc1,kd1,FL (aM (by have:=cO us none (some ((p:Nat):Int));have:=cO us (some (((p:Nat):Int)+1)) none;rw[EC,Fq];omega)),fun re1 He1 se1 ke1=>?_⟩;have st1:=sa1.trans (sb1.trans (sc1.trans (sd1.trans se1)));have te1:TD He1 (.tuple (putD ds p db)) (.ref re1):=.tup ke1 ((((zr9.cut none (some ((p:Nat):Int))).app (.cons tb .nil)).app (zr9.cut (some (((p:Nat):Int)+1)) none)).same st1);refine⟨_,rfl,t9,w,h,.ref re1,.tuple (putD ds p db),p,rfl,SqT.of (st1 _ _ k9),⟨hw,hw8⟩,⟨hh,hh8⟩,te1,?_,wG hx h0 gd p1 hl bad pn rfl (fun _ _=>rfl),fun H10 s10=>⟨_,rfl,bP ?_⟩⟩
  ·show PyData.depthAll _+1<=5;have:=wF (p:=p) dep dpb;omega
  obtain⟨lt',ul,elt,hlt,zl⟩:=tl.tupE;cases elt;have lul:=zl.len;have sL:=sB.trans (s9.trans (st1.trans s10));have hl10:=sL _ _ hlt;have zl10:=zl.same sL;have tb:=tb.same (st1.trans s10);clear te1 st1 zr9 hr9 tl hlt zl;refine⟨_,rfl,_,rfl,_,rfl,lt,ul,rfl,hl10,fun ra2 Ha2 sa2 ka2=>?_⟩;refine⟨_,rfl,aK rfl,fun rb2 hb2=>?_⟩;have sb2:=aq.upd (o:=.tup [vb]) hb2;have kb2:(upd Ha2 rb2 (.tup [vb])) rb2=some (.tup [vb]):=ag;generalize (upd Ha2 rb2 (.tup [vb]))=Hb2 at sb2 kb2 ⊢;refine⟨ra2,rb2,_,_,rfl,rfl,sb2 _ _ ka2,kb2,FL (aM (by have:=cO ul none (some ((p:Nat):Int));rw[Fq];omega)),fun rc2 Hc2 sc2 kc2=>?_⟩;refine⟨_,rfl,_,rfl,_,_,rfl,rfl,_,rfl,lt,ul,rfl,(sa2.trans (sb2.trans sc2)) _ _ hl10,fun rd2 Hd2 sd2 kd2=>?_⟩;refine⟨rc2,rd2,_,_,rfl,rfl,sd2 _ _ kc2,kd2,FL (aM (by have:=cO ul none (some ((p:Nat):Int));have:=cO ul (some (((p:Nat):Int)+1)) none;rw[EC,Fq];omega)),fun re2 He2 se2 ke2=>?_⟩;have st2:=sa2.trans (sb2.trans (sc2.trans (sd2.trans se2)));have te2:TD He2 (.tuple (putD dl p db)) (.ref re2):=.tup ke2 ((((zl10.cut none (some ((p:Nat):Int))).app (.cons tb .nil)).app (zl10.cut (some (((p:Nat):Int)+1)) none)).same st2);have ld2:=wD (d:=db) (show p<dl.length by omega);have dp2:=wF (p:=p) dpl dpb;have pv:∀H',aq He2 H'->∃(o6 o7:Option V)(lt:Addr)(dl:List PyData),[some (V.ref a),some (.int (w:Nat)),some (.int (h:Nat)),some (.ref r),some (.int c),some (.ref re2),some (.int (p:Nat)),some vb]=[some (.ref a),some (.int (w:Nat)),some (.int (h:Nat)),some (.ref r),some (.int c),some (.ref lt),o6,o7]/\aq H7 H'/\TD H' (.tuple dl) (.ref lt)/\dl.length=ds.length/\(∀j,j<ds.length-(i+1)->dl[j]?=ds[j]?)/\PyData.depthAll dl<=3:=fun H' s'=>⟨_,_,re2,putD dl p db,rfl,s8.trans (sL.trans (st2.trans s')),te2.same s',by omega,fun j hj=>by rw[yS (by omega) (show j<p by omega),el j (by omega)],dp2⟩;refine⟨_,rfl,_,_,rfl,rfl,⟨by decide,by decide⟩,_,_,rfl,rfl,(by show(0:Int)<2;decide),rfl,_,rfl,?_⟩;refine aT (fun _=>?_) (fun _=>bP (pv _ (aq.refl _)));refine⟨_,rfl,_,rfl,aK rfl,fun t11 ht11=>?_⟩;have s11:=aq.upd (o:=.tup [.int (w:Nat),.int (h:Nat)]) ht11;refine⟨_,rfl,_,rfl,t11,w,h,.ref re2,.tuple (putD dl p db),p,rfl,SqT.of ag,⟨hw,hw8⟩,⟨hh,hh8⟩,te2.same s11,?_,wG hx h0 gd p1 hl bad (by omega) ll (fun j hj=>el j (by omega)),fun H12 s12=>⟨_,rfl,bP (pv _ (s11.trans s12))⟩⟩;show PyData.depthAll _+1<=5;omega
 ·rintro σ H8 ⟨o6,o7,lt,dl,rfl,s8,tl,ll,el,dpl⟩;refine⟨_,rfl,_,rfl,aK rfl,fun t9 ht9=>?_⟩;have s9:=aq.upd (o:=.tup [.int (w:Nat),.int (h:Nat)]) ht9;refine⟨_,rfl,t9,w,h,.ref r,.tuple ds,rfl,SqT.of ag,⟨hw,hw8⟩,⟨hh,hh8⟩,tR7.same (s8.trans s9),d5,(fun _ H3 s3=>⟨rfl,q _⟩),fun p pb=>by rw[gd]at pb;cases pb⟩
end
end My
structure PySem.W.Fast:Prop where (tw5170620322772831881 tw3405185192531321707 tw2956064091029685699 tw12932606378524956889 tw11715018239540397927 tw15271391149165286302 tw12755255461074109733 tw17499913187638089657 tw10914853569008652675 tw13993452412487067479 tw13559707934696858039 tw9415919611227293591 tw3567460068549326503 tw7964701324766413398 tw12298982977192866182 tw9905795925463548317 tw2012525111278346124 tw7796430494574792947 tw17576591962278096130 tw8868929244759537089 tw8753243560480771921 tw11284599549371500032 tw7242818290924557941 tw17290582919270622188 tw7945975304736803052 tw1106345087761966332 tw14062555525761379038 tw2076445780453164148 tw12892002652930295586 tw9435407190443686593 tw18141811603114415504 tw18086965904400405482 tw250482495765588085 tw11817226772456760838 tw2248641949481256919 tw4429214512382529908 tw5808250081765535489 tw1778270258364531346 tw9974811821955281848 tw7057706868812941553 tw7685947181837200304 tw14276962802195291916 tw12143312032980241475 tw992614015625150833 tw10087371795126193656 tw13371618361344388345 tw12573797755613115527 tw15069066758135495381 tw13537672134509127522 tw16233465560596777353 tw13607189222512559798 tw1582163667394159396 tw12465428672510255857 tw11218731539204073860 tw2663411244371408172 tw788831768244039436 tw6719268149837921382 tw2232780713277409721 tw12453513434253927312 tw3698865423423053944 tw7493644732104907775 tw2093177974674892477 tw15741041703040093306 tw11961167404301532366 tw1226565721560657640 tw16581790869480579873 tw6969085387399188452 tw4552297714746003650 tw14651341691953693979 tw14161931661195053231 tw293006099385618762 tw2780988005748157693 tw2421173361677301924 tw6631290592257982222 tw10029984723645640557 tw960781026156055568 tw7346286298523642711 tw9455031118238935176 tw827413067157703543 tw2337754441339407664 tw7584419435872739962 tw9817195945747427159 tw5950433196456282864 tw7600259071446566328 tw11968194629230842489 tw2318945282734060505 tw2914241253548085843 tw6899544836593794719 tw2067927997954308064 tw5422067007600391327 tw12536559575828923919 tw9056130240271985408 tw109319919343786777 tw16403730125033373968 tw5827010221782731980 tw8368874324322335331 tw13477087439297495166 tw13094890878323439318 tw6286604999470390943 tw1246799436678903894 tw1033744983223227092 tw3032386562029385856 tw7060909091488656366 tw6002956341699224505 tw5556522930733709343 tw18266376496863644622 tw10771858768987898589 tw17796939455778778672 tw16431200572831145407 tw12205075346631456892 tw15001473078948606061 tw1879321209143873349 tw3951497920485882984 tw16228360692282788384 tw16122652749725336615 tw5619257602612344670 tw12109500528089390902 tw5905095483028217857 tw7191080220945352448 tw15834529463905011219 tw14911071989562963878 tw14616022610717887030 tw18320961635616812205 tw9313772480633674273 tw1066114308378869726 tw2214071644936871634 tw8643742244680348643 tw4966415126745248685 tw2245141590156999824 tw16416387810283637575 tw632365722805610531 tw8246082321017841927 tw1640868394342774643 tw2047368347994032831 tw8072130783109393634 tw15471508742679936347 tw4944425128583577938 tw1071894957165401465 tw14631751589632418386 tw9414083846205899649 tw9804202548178171231 tw3277629345662946750 tw18433484145035300110 tw15092568194744712452 tw2839264767256585517 tw821879878835519904 tw427671449560339586 tw14257922091232674753 tw1438845884268157954 tw4127956709968137314 tw13591758108096254567 tw16650308813505272234 tw1019701941600118086 tw2725942554413255755 tw18064757052566446875 tw16240318281222076414 tw10968254942146130244 tw9878080113510664016 tw11773644060899723800 tw7618075416370142214 tw17174255211103259561 tw4592180670743280947 tw673522426343605316 tw14447816536200199750 tw6094957770886141767 tw9930689625687683287 tw6895881618953567774 tw5812476745130930993 tw6306660097886481545 tw4727994309973935589 tw9140640373959714977 tw13239624000579030794 tw11575689348028943093 tw11443969307294952810 tw11964099536569253247 tw2250432933464934573 tw6174224879819961730 tw11636419443179624305 tw5920382939639615425 tw3943448630544292548 tw3293127560178277711 tw1972477145357518867 tw4721444058138375491 tw6854306085311326242 tw6673552412072605662 tw12732753960552123307 tw5431908646928632030 tw17417303687310554137 tw8724305362892014300 tw2020671641263809101 tw282083853858535845 tw9779548531989880167 tw11131061757071292787 tw12703848948468001822 tw11984599669973596133 tw9841537783116197669 tw6543527535947827123 tw6140736554194394712 tw11589522624500845253 tw3698163992789513546 tw11336310825131361578 tw11886696611449784451 tw2515443274497095155 tw14547353697937393166 tw2180242892063460470 tw8917518075493443798 tw1792690545071863736 tw6588202227019482004 tw5838169918317881119 tw16624825352633885276 tw16936614910647144610 tw3517645182994072611 tw13950498756142433555 tw11455663408031978504 tw6467473449516121903 tw3174242082080179537 tw9165361660234400042 tw6871381190849274358 tw14260669565807116254 tw10165772394568143350 tw4937564449957565204 tw444866207302202958 tw13912294412645606722 tw18407052140040536360 tw10425763375989763966 tw7350600669797483289 tw3801369651652418343 tw4432082973904852551 tw8358357086685198328 tw17331099219972400808 tw4092053864643823934 tw1206095766944829224 tw5183826117458474830 tw12434672719436993249 tw11513070098673856220 tw17944433850178541663 tw13226873206382565548 tw7306148230134308856 tw1377592067329716732 tw6251918293846135056 tw9820896561033465607 tw1008538905459800034 tw11017578038357210588 tw13415133725201964917 tw383145365225769664 tw13076086667502400436 tw14530561305570395066 tw1883945055541019526 tw13408554520396831898 tw10338991721395110334 tw3029624145631554819 tw9784983262390285228 tw15409832669487960554 tw357600970388832771 tw14882956012011426554 tw14204807865193430235 tw2653081313888848540 tw15869582238852901137 tw14092761181559298465 tw9336883517801855456 tw583398900896197475 tw5994762596312186809 tw10211105986756579541 tw13901372570966015778 tw13537728670830301159 tw7122438921597751400 tw9079863988984501652 tw9983727758064466026 tw17914550909161806411 tw17441530910359713406 tw14418468783906101381 tw3452653612297490018 tw1836519168283453256 tw143613711648636876 tw5426875184154294639 tw11841483759880582382 tw17552891265327687924 tw18374089765938717194 tw8775586037265357272 tw12676862863114439356 tw17666679679413868709 tw18211961852789425671 tw15708124241855630163 tw2962486741383262849 tw6878089948932615621 tw10988544632920212323 tw8457425578583687907 tw3662166626221730133 tw13535318189825244093 tw16936879501144379535 tw15869742694202625941 tw12311413368349049283 tw4900501876588316470 tw3299202108503735287 tw2385674446331886095 tw1262744580224629440 tw6146294335022875403 tw13683011324053920053 tw17654356176824415325 tw2880719652060207985 tw6692220297084086195 tw12497515648972537088 tw16957209566507011246 tw15156620742510934415 tw979007565720052748 tw8938378197809115306 tw1051833791078912774 tw13405334501768764286 tw1150601027019132488 tw7558140885592010848 tw6983105843546716609 tw13342767162375247037 tw11584364521293945594 tw6909826567548364111 tw5009684957258738384 tw619358563946636360 tw6616605562716456584 tw16217444093852867402 tw6238920112380468944 tw2227867547494445516 tw18227874399757962289 tw17494544159778406936 tw12863421029849502483 tw339837671254027423 tw7698969602621576077 tw1621677612012782738 tw7279195386476077348 tw17135511173589869425 tw2565843260445464968 tw18412666844389681570 tw11892905280068618364 tw15366309809465673732 tw15536459503442566014 tw9406027484039488597 tw9434296357334051896 tw1454883013878011692 tw16500472525026615890 tw6810995458459068819 tw5722992666087288635 tw16174320902960014529 tw4812579558643579041 tw4935277092960030193 tw11844289014773052642 tw1234374083483562709 tw955861805694760558 tw6920700326462781180 tw18324372597301251956 tw3647445513162366623 tw10592789600600408970 tw10836981780104442921 tw15299491568119674313 tw12822935214944627208 tw2560548153885522112 tw3124313525711784946 tw6793623888757275918 tw17827040861734099258 tw12792332589620549903 tw13603457262833296350 tw13392765121184402931 tw13183799465633090536 tw3878320434719462067 tw11194866550332927243 tw938834172782465676 tw4095942765222289702 tw2058177004466965502 tw3728028287343746379 tw9772030326042754043 tw4932020593765273583 tw9422848811451433234 tw15625480881457908000 tw1890465627654100185 tw12396499454840317522 tw18246187711253641475 tw2086976065368236137 tw10011133081014798427 tw9910382713863625187 tw104026036195316209 tw8246678091271127336 tw17814287263889925285 tw4175764912606996064 tw14774914496317856118 tw13012753363049253844 tw8692203032341656668 tw4697288820867487319 tw12115496427364770441 tw5145740699292700773 tw643064734412793107 tw3574872342121049399 tw11418973682364617143 tw9688101588075878046 tw5626802805697711045 tw6650281214717861604 tw10820367779213625004 tw8478057643180868951 tw16516760636622549105 tw7611873658571093487 tw17953954746419746739 tw14179359421170376464 tw9383529093456753983 tw1011233484327305068 tw6290464207715284206 tw13826620477164061819 tw9397166032603734400 tw1402175467396246642 tw15650475932776828461 tw2297886252629045732 tw12712462831443151288 tw16510376806588867391 tw3193895507664899120 tw5951859758592282246 tw16696870041908645490 tw1985299452889190309 tw6107586432559780363 tw14129174186109249900 tw8881493230775427148 tw7929486339599004760 tw14936041423938417958 tw797412258676304682 tw15794698960203159223 tw12309066794842952945 tw5908021602926821239 tw18002025128730558074 tw2953763507541437674 tw6606462071643926048 tw3086074708781097887 tw11373951011943348642 tw16729793716393596307 tw6899436352601900277 tw4200057706395079169 tw12074157968634912257 tw7027134587770390149 tw8083730685882679894 tw2437115051148848295 tw12785868112898616496 tw18317079691163690246 tw878321180854104268 tw1729951683196396102 tw3902010130879959339 tw11519571694429058963 tw15983411931282244081 tw5652908229127091971 tw767772027423584858 tw2992509385159036613 tw13525926078694759083 tw12324395128974373198 tw15798495121361776847 tw8117199820293838027 tw13829685261151278266 tw14602336128334791757 tw12091464936598828417 tw10110572639721110959 tw4165292324938568757 tw17295682246143671301 tw4877460746501218282 tw1693017173553254211 tw6727644800286550247 tw4743134036999275188 tw7194097674777090974 tw3631020151749560025 tw4230911724166612813 tw6835168085688201712 tw3064672934478387096 tw9581472299473337141 tw13048944697673310117 tw8786573011702255325 tw8054421078523222342 tw8494071816562842198 tw3744013486266631110 tw4943100920772231225 tw11376867055348797206 tw127491849472503763 tw9406388987530752490 tw9928864704064419853 tw15188093719415811204 tw2041726907120475967 tw661208561908428222 tw2197700428507794135 tw8159277095758607947 tw14746561509112151596 tw12977601122272477926 tw10201032563847656644 tw10760807385643954117 tw14483462485661443323 tw568584039072635886 tw10882102294697100745 tw9273828393938918378 tw2599985744511578396 tw6095715767950165002 tw266485062999513789 tw1401561487425390080 tw11427030768242268301 tw2900341826511415501 tw7648376786905186641 tw17621519051510693027 tw11537258644516472283 tw4987888011139420457 tw3670579630839868990 tw3758262427640949098 tw12969081746383155135 tw17245109062235362555 tw7891510489375624273 tw5053398534697916752 tw15433547456908640927 tw7343494203051275917 tw5682666681615792878 tw9156276349318694124 tw6955297213567946395 tw7544836927832342554 tw2284357935891526481 tw12793895371049775098 tw3395063995444078752 tw3676200503643361813 tw17145199472066188543 tw1050169702742234264 tw6395486816930674744 tw14781852758531528543 tw5511065528635652266 tw8241958129307918486 tw318778906925292763 tw14695852140300756600 tw13762064241821305276 tw14530693304069911377 tw9020694787694877717 tw12496761413128022819 tw3522107908859869003 tw12677516870589650823 tw7701968526188481597 tw11918457036644410529 tw2329793431181436923 tw10769861868890255082 tw8991688733819907734 tw11241898915019812529 tw16721144008716020470 tw17771262629467601909 tw10374693651316926325 tw5669943824535555925 tw1805082242866453919 tw10022219360505495683 tw5467927419251205269 tw3244270758312461778 tw5480225665019845994 tw15130200214704367630 tw13683308523459170930 tw17805147469992723119 tw14798319334650456279 tw12580774124751584959 tw15809901041289410798 tw2572033722726768896 tw828777526838361347 tw10705629975995365033 tw3187415824655316582 tw7647760448799940549 tw5333090181890328970 tw11181305602877882813 tw7685788964718720632 tw14043717790541287674 tw14389952771859032169 tw13044826043647099231 tw17357609123331368346 tw7812218785140148148 tw13012493483094518183 tw13145689126685413965 tw9230671271735263230 tw5587851420089830082 tw12813575428161862669 tw15085967213159821288 tw8030078205242294514 tw10852487420770972268 tw12185554265442443718 tw7458277273798544727 tw548266474541404419 tw16037174441675347655 tw2166270010353680374 tw11179929192086773218 tw11526282975214958745 tw1829030143590049273 tw11217187243376172801 tw10977636893061115276 tw1557940435951964464 tw186029052078151171 tw9807863329556475375 tw13914269655078193040 tw7487840048903732943 tw18071253608019561189 tw6975170673887001709 tw1789114014468097149 tw16225250173665336208 tw6381389805994921827 tw880787129019238713 tw14278223357330175033 tw13581205659178411225 tw5810631723656374310 tw17017561881887203794 tw18307940809585428993 tw8783618409364480149 tw9826118734148683869 tw11989902581824650034 tw710898035005398036 tw9168029930584833025 tw8873574357425793167 tw11809782893021204838 tw5828872282709547861:True)
open PySem PySem.W PyProof.Rows
local macro_rules
 | `(tactic|trivial)=> `(tactic|(dsimp only[L2.KOf];refine' L2.CM (by assumption) (by assumption) ?a ?l ?c ?k (fun _ _ _ _ _ _=>by first|exact L2.Du fun _=>rfl|exact L2.Dt fun _ _=>rfl|exact L2.Ds fun _ _ _=>rfl|exact L2.Dr fun _ _ _ _=>rfl|exact L2.Dq fun _ _ _ _ _=>rfl|exact L2.Dp fun _ _ _ _ _ _=>rfl|exact L2.Eh fun _ _ _ _ _ _ _=>rfl);(case a=>k_is);(case l=>k_is);(case c=>k_is);(case k=>k_is)))
set_option maxRecDepth 100000 in
set_option maxHeartbeats 0 in
theorem PySem.Challenge.cw_landroll_k42_rows_checked_holds : PySem.Challenge.rw_landroll_k42_rows_checked.Holds := by
 w_on;o_law;k_head;(case hw=>w_witness2)
 k_fill
 refine L2.yx (l:=PySem.Challenge.rw_landroll_k42_rows_checked) (n:=63) (k:=12) (x:="_law_script") (CX:=L2.CX0) (sp:=My.yF) rfl (by decide) rfl ⟨rfl,by decide,by decide⟩ (fun w h Y=>PySem.W.kIn_of Y) ?F ?S ?C
 case F=>
  intro w mg fa h KX G hmg;have B:L2.Bn mg:=by
   refine' L2.DH KX G ?z0 ?z1 ?z2 ?z3 ?z4 ?z5 ?z6 ?z7 ?z8 ?z9 ?z10 ?z11 ?z12 ?z13
   (case z0=>k_is);(case z1=>k_is);(case z2=>k_is);(case z3=>k_is);(case z4=>k_is);(case z5=>k_is);(case z6=>k_is);(case z7=>k_is);(case z8=>k_is);(case z9=>k_is);(case z10=>k_is);(case z11=>k_is);(case z12=>k_is);(case z13=>k_is)
  have CO:L2.Tx (L2.KOf KX) mg "law" (My.top 107) ["_law_script"]:=by trivial
  obtain⟨f,fd,F,b,hm⟩:=CO.ex;have e0:=hmg.symm.trans hm;cases e0;obtain⟨oc,od,kV,doc,pm,an,cdv,ct,osl,rfl,lk,hcd⟩:=id F.ex;refine⟨fnOf "law" "law" (L2.fN (My.top 107)) (L2.dq (My.top 107)) (L2.ao (My.top 107)) .none kV doc pm an cdv ct,fun s u=>.of_eq rfl,fun base kb nb=>?_⟩;have Bf:∃t,mg "AT"=some (.int 4 t):=by
   refine' L2.fM KX G ?a
   (case a=>k_is)
  have bI:∃t,mg "BURDEN_KIND"=some (.int 5 t):=by
   refine' L2.fM KX G ?a
   (case a=>k_is)
  have dm:∃t,mg "GREATEST_AMOUNT"=some (.int 1000000000000 t):=by
   refine' L2.fM KX G ?a
   (case a=>k_is)
  have dj:∃t,mg "GREATEST_BOTTOM"=some (.int 1000000000 t):=by
   refine' L2.fM KX G ?a
   (case a=>k_is)
  have dF:∃t,mg "LAST_DAY"=some (.int 1000000000 t):=by
   refine' L2.fM KX G ?a
   (case a=>k_is)
  have cF:∃t,mg "LAST_NUMBER"=some (.int 1000000000 t):=by
   refine' L2.fM KX G ?a
   (case a=>k_is)
  have jv:∃t,mg "LETTERS"=some (.str L2.LET t):=by
   refine' L2.Bb KX G ?a
   (case a=>k_is)
  have eM:∃t,mg "LONGEST_NAME"=some (.int 8 t):=by
   refine' L2.fM KX G ?a
   (case a=>k_is)
  have cS:∃t,mg "MOST_NAMES"=some (.int 12 t):=by
   refine' L2.fM KX G ?a
   (case a=>k_is)
  have rR:∃t,mg "SIDE"=some (.int 8 t):=by
   refine' L2.fM KX G ?a
   (case a=>k_is)
  have uO:mg "abs"=none:=by
   refine' L2.nz KX G ?a
   (case a=>k_is)
  have ig:mg "all"=none:=by
   refine' L2.nz KX G ?a
   (case a=>k_is)
  have uN:mg "sum"=none:=by
   refine' L2.nz KX G ?a
   (case a=>k_is)
  have fU:mg "ValueError"=none:=by
   refine' L2.nz KX G ?a
   (case a=>k_is)
  have qx:∃p,mg "AXES"=some (.ref p)/\∀H,L2.SqT (L2.KOf KX) H p [L2.V.str "x",L2.V.str "y"]:=by
   dsimp only[L2.KOf];refine' L2.nC KX G ?a ?l ?z ?r
   (case a=>k_is);(case l=>k_is);(case z=>decide);(case r=>exact .cons ⟨_,rfl⟩ (.cons ⟨_,rfl⟩ .nil))
  have eE:∃p,mg "BURDEN_KINDS"=some (.ref p)/\∀H,L2.SqT (L2.KOf KX) H p [L2.V.str "debt",L2.V.str "way",L2.V.str "buy",L2.V.str "note"]:=by
   dsimp only[L2.KOf];refine' L2.nC KX G ?a ?l ?z ?r
   (case a=>k_is);(case l=>k_is);(case z=>decide);(case r=>exact .cons ⟨_,rfl⟩ (.cons ⟨_,rfl⟩ (.cons ⟨_,rfl⟩ (.cons ⟨_,rfl⟩ .nil))))
  have qw:∃p,mg "NONE"=some (.ref p)/\∀H,L2.SqT (L2.KOf KX) H p [L2.V.int 0,L2.V.int 1]:=by
   dsimp only[L2.KOf];refine' L2.nC KX G ?a ?l ?z ?r
   (case a=>k_is);(case l=>k_is);(case z=>decide);(case r=>exact .cons ⟨_,rfl⟩ (.cons ⟨_,rfl⟩ .nil))
  have wu:∃p,mg "ALL"=some (.ref p)/\∀H,L2.SqT (L2.KOf KX) H p [L2.V.int 1,L2.V.int 1]:=by
   dsimp only[L2.KOf];refine' L2.nC KX G ?a ?l ?z ?r
   (case a=>k_is);(case l=>k_is);(case z=>decide);(case r=>exact .cons ⟨_,rfl⟩ (.cons ⟨_,rfl⟩ .nil))
  have Y_LOOKS:L2.wc My.Pg w (L2.KOf KX) mg:=by
   dsimp only[L2.KOf];refine' L2.zy KX G ?a ?sm ?l ?g1 ?g2 ?g3 ?g4 ?g5 ?g6 ?g7 ?g8 ?g9 ?g10 ?g11 ?g12 ?g13 ?g14 ?g15 ?g16 ?g17 ?g18 ?g19 ?g20 ?c1 ?c2 ?c3 ?c4 ?c5 ?c6 ?c7
   (case a=>k_is);(case sm=>decide);(case l=>k_is)
   (case g1=>k_is);(case g2=>k_is);(case g3=>k_is);(case g4=>k_is);(case g5=>k_is);(case g6=>k_is);(case g7=>k_is);(case g8=>k_is);(case g9=>k_is);(case g10=>k_is);(case g11=>k_is);(case g12=>k_is);(case g13=>k_is);(case g14=>k_is);(case g15=>k_is);(case g16=>k_is);(case g17=>k_is);(case g18=>k_is);(case g19=>k_is);(case g20=>k_is);(case c1=>k_is);(case c2=>k_is);(case c3=>k_is);(case c4=>k_is);(case c5=>k_is);(case c6=>k_is);(case c7=>k_is)
  obtain⟨cZ,aH,cg,iC,fV,cX,dz,fm,gx,qp,nu,e6,gG,dO,k_BadPaper_LandError,bB,k_BadPaper_Falls,k_BadPaper_Late,jj,eP,uX⟩:∃cZ aH cg iC fV,L2.lW (L2.KOf KX) mg "BadFraction" cZ/\L2.wj mg "BadPaper" aH/\L2.sj (L2.KOf KX) aH/\L2.lW (L2.KOf KX) mg "LandError" cg/\L2.lW (L2.KOf KX) mg "Late" iC/\L2.wj mg "Falls" fV/\L2.sk (L2.KOf KX) aH/\L2.Af (L2.KOf KX) mg "BadPaper" aH/\L2.RdX (L2.KOf KX) aH "place"/\kitOne (L2.KOf KX) (.ref aH) (.ref cg)=some true/\kitOne (L2.KOf KX) (.ref aH) (.type "ValueError")=some true/\kitOne (L2.KOf KX) (.ref aH) (.ref fV)=some false/\kitOne (L2.KOf KX) (.ref aH) (.ref iC)=some false/\L2.Bz (L2.KOf KX) mg "LandError" cg/\L2.CJ (L2.KOf KX) aH "place"/\L2.TxX (L2.KOf KX) mg "BadPaper" aH My.j9 ["self","text","place"] "BadPaper.__init__":=by
   dsimp only[L2.KOf];refine'⟨_,_,_,_,_,L2.vT KX G ?nH ?nG,L2.xk KX G ?so,L2.Ak ?qu ?qt,L2.vT KX G ?qr ?qq,L2.vT KX G ?Aj ?Ai,L2.xk KX G ?yt,⟨?uU,?uT,?uS,?uR,?uQ⟩,L2.A9 KX G ?rP ?rO ?rN ?rM,⟨?kN,?kM,?kL,?kK⟩,?k_BadPaper_LandError,?bB,?k_BadPaper_Falls,?k_BadPaper_Late,L2.Bs KX G ?rK ?rJ ?rH ?rG,⟨?ki,?kh,?kg⟩,L2.BK KX G ?sJ ?sI ?sH ?sy ?sx ?sv ?su ?sr (fun _ _ _ _ _ _ us hl=>match us,hl with| [_,_,_],_=>rfl)⟩
   (case nH=>k_is)
   (case nG=>k_exc)
   (case so=>k_is)
   (case qu=>k_is)
   (case qt=>kernel_rfl)
   (case qr=>k_is)
   (case qq=>k_exc)
   (case Aj=>k_is)
   (case Ai=>k_exc)
   (case yt=>k_is)
   (case uU=>k_is)
   (case uT=>k_is)
   (case uS=>k_is)
   (case uR=>k_is)
   (case uQ=>k_is)
   (case rP=>k_is)
   (case rO=>k_is)
   (case rN=>kernel_rfl)
   (case rM=>k_is)
   (case kN=>kernel_rfl)
   (case kM=>k_is)
   (case kL=>k_is)
   (case kK=>k_is)
   (case k_BadPaper_LandError=>kit_is)
   (case bB=>kit_is)
   (case k_BadPaper_Falls=>kit_is)
   (case k_BadPaper_Late=>kit_is)
   (case rK=>k_is)
   (case rJ=>k_is)
   (case rH=>k_is)
   (case rG=>k_is)
   (case ki=>k_is)
   (case kh=>kernel_rfl)
   (case kg=>k_is)
   (case sJ=>k_is)
   (case sI=>k_is)
   (case sH=>k_is)
   (case sy=>k_is)
   (case sx=>k_is)
   (case sv=>k_is)
   (case su=>k_is)
   (case sr=>kernel_rfl)
  have gu:=My.rB (P:=My.Pg) (w:=w) (base:=base) uX jj eP;have cN:=My.rh (P:=My.Pg) (w:=w) (base:=base) (K:=L2.KOf KX) B (by trivial);have iy:=My.zo (P:=My.Pg) (w:=w) (base:=base) (K:=L2.KOf KX) B (by trivial);have jP:=My.Ca (P:=My.Pg) (w:=w) (base:=base) (K:=L2.KOf KX) B (by trivial);have lI:=My.xX (P:=My.Pg) (w:=w) (base:=base) (K:=L2.KOf KX) B (by trivial);have fz:=My.rA (P:=My.Pg) (w:=w) (base:=base) (K:=L2.KOf KX) B (by trivial);have jo:=My.xV (P:=My.Pg) (w:=w) (base:=base) (K:=L2.KOf KX) B (by trivial);have dU:=My.kW (P:=My.Pg) (w:=w) (base:=base) (K:=L2.KOf KX) B uO (by trivial);have ck:=My.vG (P:=My.Pg) (w:=w) (base:=base) (K:=L2.KOf KX) B eM jv ig (by trivial);have dH:=My.rg (P:=My.Pg) (w:=w) (base:=base) (K:=L2.KOf KX) B (by trivial);have dG:=My.rf (P:=My.Pg) (w:=w) (base:=base) (K:=L2.KOf KX) B ig (by trivial);have cG:=My.oF (P:=My.Pg) (w:=w) (base:=base) (K:=L2.KOf KX) B (by trivial);have ix:=My.tZ (P:=My.Pg) (w:=w) (base:=base) (K:=L2.KOf KX) B Y_LOOKS (by trivial);have aU:=My.oC (P:=My.Pg) (w:=w) (base:=base) (K:=L2.KOf KX) B (by trivial);have cM:=My.qV (P:=My.Pg) (w:=w) (base:=base) (K:=L2.KOf KX) B (by trivial);have eY:=My.tX (P:=My.Pg) (w:=w) (base:=base) (K:=L2.KOf KX) B (by trivial);have gH:=My.qW (P:=My.Pg) (w:=w) (base:=base) (K:=L2.KOf KX) B (by trivial);have ie:=My.vC (P:=My.Pg) (w:=w) (base:=base) (K:=L2.KOf KX) B (by trivial);have fP:=My.pF (P:=My.Pg) (w:=w) (base:=base) (K:=L2.KOf KX) B (by trivial);have av:=My.tU (P:=My.Pg) (w:=w) (base:=base) (K:=L2.KOf KX) B (by trivial);have eV:=My.vz (P:=My.Pg) (w:=w) (base:=base) (K:=L2.KOf KX) B (by trivial);have bg:=My.nh (P:=My.Pg) (w:=w) (base:=base) (K:=L2.KOf KX) B (by trivial);have lJ:=My.xY B jP (by trivial);have lO:=My.x2 B fz jo (by trivial);have bM:=My.jW B dU (by trivial);have aI:=My.qZ B cN (by trivial);have ff:=My.oG B ig cS ck dG (by trivial);have gU:=My.rz B qx dH (by trivial);have gR:=My.rm B ck (by trivial);have dw:=My.jX B ck (by trivial);have cT:=My.jD B eE dH (by trivial);have bL:=My.jV B eY gH (by trivial);have gI:=My.qX B ie fP (by trivial);have bS:=My.kS B av bg (by trivial);have bz:=My.tW B av (by trivial);have aR:=My.pG B av (by trivial);have dQ:=My.kT B av (by trivial);have bV:=My.m9 B av (by trivial);have dR:=My.kU B av (by trivial);have fO:=My.pE B av (by trivial);have ir:=My.t8 B cX cN bM (by trivial);have rY:=My.AN B bM (by trivial);have nF:=My.zm B lJ lO (by trivial);have cm:=My.vH B dF aI (by trivial);have cH:=My.oJ B cF aI (by trivial);have dI:=My.rq B aI (by trivial);have gS:=My.rn B rR aI (by trivial);have fh:=My.oK B Bf iy jP aI (by trivial);have fj:=My.oM B dm aI (by trivial);have gP:=My.rl B cF bI aI (by trivial);have b6:=My.mn B av eV bz (by trivial);have du:=My.jU B uN av eV bg bS (by trivial);have bZ:=My.mm B bL gI (by trivial);have gm:=My.tQ B av bL (by trivial);have b7:=My.mq B av aR (by trivial);have eN:=My.mZ B av aR (by trivial);have lq:=My.xU B qw rY (by trivial);have nE:=My.zk B jP nF (by trivial);have eZ:=My.vF B dj cG aI ir (by trivial);have cI:=My.ji B cH (by trivial);have gT:=My.rp B cm (by trivial);have dy:=My.jY B dI (by trivial);have fS:=My.pJ B cm (by trivial);have fR:=My.pI B bI cm (by trivial);have jx:=My.vA B av bg bz bZ (by trivial);have eO:=My.m8 B av b6 (by trivial);have fb:=My.oE B av aR bV b7 (by trivial);have gJ:=My.qY B dF cM aR cm (by trivial);have lH:=My.xW B lI nE (by trivial);have fQ:=My.pH B ck cG eZ (by trivial);have gK:=My.rj B eZ (by trivial);have iw:=My.tV B aU av bg bS bz b6 du bZ gm jx (by trivial);have jy:=My.vE B av aR dQ bV dR b7 eN eO fb (by trivial);have lK:=My.xZ B lH (by trivial);have fg:=My.oH B ig cS wu dG lq fQ (by trivial);have d9:=My.tY B iy aI lK (by trivial);have fT:=My.pK B d9 (by trivial);have gO:=My.rk B bI aI d9 (by trivial);have nA:=My.zp B Y_LOOKS gu dz fm ix ff gU gR dw cT cH dI gS fh fj gP cI gT dy fS fR gK fg fT gO (by trivial);have cf:=My.oB B dz fU gx qp nu e6 gG dO k_BadPaper_LandError bB k_BadPaper_Falls k_BadPaper_Late nA (by trivial);have cY:=My.oA B cM cf (by trivial);exact My.B9 B aU fO gJ iw jy cf cY F
 case S=>exact fun K H a ns hl hO hS=>⟨a,ns,rfl,hS,hl,fun _=>rfl⟩
 case C=>exact fun _ _ _ _ h=>h
#print axioms PySem.Challenge.cw_landroll_k42_rows_checked_holds
